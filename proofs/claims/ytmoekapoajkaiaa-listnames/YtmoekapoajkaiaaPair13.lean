/- The program's and the document's answers on functions are the same; the law's begun. -/
import Derived.Test.YtmoekapoajkaiaaFind13
namespace Go.Proofs.Ytmoekapoajkaiaa
open Go.RowKit Go.Sort Go.Maps
set_option linter.unusedVariables false

theorem tl_ne13 {t t' : ByteArray} (h : ¬ t = t') : (t.toList == t'.toList) = false := by
  rw [beq_eq_false_iff_ne, ByteArray.toList_eq, ByteArray.toList_eq]
  intro e
  exact h (ByteArray.ext (Array.ext' e))
theorem fn_tab : ∀ k, k < 76 → fnRows.getD k (no, 0, 0, 0) = ((tab.getD k (no, 0, 0)).1, clsOf ((k : Int) + 1), (tab.getD k (no, 0, 0)).2) := by decide +kernel
theorem fn_at (k : Nat) (hk : k < 76) : (fnRows[k]'(by rw [fnRows_len]; exact hk)) = ((tab[k]'(by rw [tab_len]; exact hk)).1, clsOf ((k : Int) + 1), (tab[k]'(by rw [tab_len]; exact hk)).2) := by
  have h := fn_tab k hk
  rw [List.getD_eq_getElem?_getD, List.getElem?_eq_getElem (by rw [fnRows_len]; exact hk), List.getD_eq_getElem?_getD, List.getElem?_eq_getElem (by rw [tab_len]; exact hk)] at h
  exact h
/-- Info answers alike. -/
theorem pair_info (f : Int) : ∃ (n : ByteArray) (c mn mx er : Int), (∀ w, Calls Try.prog 9 #[.int .i64 f] w fun e w' => e = .returned (.tuple #[fnV n c mn mx, .int .i64 er]) ∧ Below w.heap.size w w') ∧ (∀ w, Calls Try.prog 10 #[.int .i64 f] w fun e w' => e = .returned (.tuple #[fnV n c mn mx, .int .i64 er]) ∧ Below w.heap.size w w') := by
  by_cases h : 1 ≤ f ∧ f ≤ 76
  · obtain ⟨k, rfl⟩ : ∃ k : Nat, f = (k : Int) + 1 := ⟨(f - 1).toNat, by omega⟩
    have hk : k < 76 := by omega
    refine ⟨_, _, _, _, _, fun w => info_yes k hk w, fun w => ?_⟩
    have q := rinfo_yes k hk w
    rw [fn_at k hk] at q
    exact q
  · exact ⟨_, _, _, _, _, fun w => info_no f h w, fun w => rinfo_no f h w⟩
theorem rowN {w : World} {B : Nat} (h : Blk w B fnC 28) (k : Nat) (hk : k < 76) : w.cell? ⟨B, k * 4, none⟩ = some (.string (nm k)) := by
  have q := row_cells h k hk 0 (by omega)
  rw [Nat.add_zero, fn_at k hk] at q
  rw [q, ← nm_eq k hk]; rfl
set_option maxHeartbeats 1000000 in
set_option maxRecDepth 100000 in
theorem rfind_any (s : ByteArray) (w : World) : Calls Try.prog 8 #[.string s] w fun e w' => ((∃ i, i < 76 ∧ nm i = s ∧ e = .returned (.tuple #[.int .i64 ((i : Int) + 1), .bool true])) ∨ ((∀ i, i < 76 → nm i ≠ s) ∧ e = .returned (.tuple #[.int .i64 0, .bool false]))) ∧ Below w.heap.size w w' := by
  have HR := hide rows_any
  go_enter Try.func8, Try.ntmps8
  go_wp2_with (go_at_call 12; refine (HR.out _).mono ?_; rintro e w1 ⟨rfl, rfl⟩)
  go_loopw [5] (fun i wr => ∃ k : Nat, k ≤ 76 ∧ i = .int .i64 k ∧ Hid (∀ i, i < k → nm i ≠ s) ∧ wr = w.alloc (.cells fnC 28)) (fun i _ => 76 - (intOf i).toNat)
  case atStart => exact ⟨0, Nat.zero_le _, rfl, hide (fun i hi => absurd hi (Nat.not_lt_zero i)), rfl⟩
  case round =>
    obtain ⟨k, hk, rfl, hn, B⟩ := hrel
    replace B := hide B
    have bel : Hid (Below w.heap.size w wr) := hide (by rw [B.out]; exact step (Below.refl _ w) _)
    by_cases hkt : k < 76
    · have p0 : (k : Int) < 76 := by omega
      have hc := rowN (w := wr) (B := w.heap.size) (by rw [B.out]; exact Blk.new w _ _) k hkt
      have wk := IntWalk.wrap64_in ((k : Int) + 1) ⟨by omega, by omega⟩
      by_cases e : nm k = s
      · 
        have e' := hide e
        rw [e] at hc
        clear e
        go_wp2_with fail
        refine bodyPost_ret (v := .tuple #[.int .i64 ((k : Int) + 1), .bool true]) (by simp [results, Try.results8, go_sem]; try rfl) rfl ?_
        exact ⟨.inl ⟨k, hkt, e'.out, rfl⟩, bel.out⟩
      · have q0 := tl_ne13 e
        have hn2 : Hid (∀ i, i < k + 1 → nm i ≠ s) := hide (fun i hi => by by_cases h : i = k; (subst h; exact e); exact hn.out i (by omega))
        generalize nm k = t at hc q0
        clear e
        go_wp2_with fail
        exact ⟨⟨k + 1, hkt, by first | rfl | (rw [wk]; rfl), hn2, B.out⟩, by first | exact meas13 hkt | (rw [wk]; exact meas13 hkt)⟩
    · obtain rfl : k = 76 := by omega
      go_wp2_with fail
      refine bodyPost_ret (v := .tuple #[.int .i64 0, .bool false]) (by simp [results, Try.results8, go_sem]; try rfl) rfl ?_
      exact ⟨.inr ⟨hn.out, rfl⟩, bel.out⟩
/-- Find answers alike. -/
theorem pair_find (s : ByteArray) (hs : s.size ≤ maxLen) : ∃ (c : Int) (b : Bool), (∀ w, Calls Try.prog 7 #[.string s] w fun e w' => e = .returned (.tuple #[.int .i64 c, .bool b]) ∧ Below w.heap.size w w') ∧ (∀ w, Calls Try.prog 8 #[.string s] w fun e w' => e = .returned (.tuple #[.int .i64 c, .bool b]) ∧ Below w.heap.size w w') := by
  by_cases h : ∃ i, i < 76 ∧ nm i = s
  · obtain ⟨i, hi, rfl⟩ := h
    refine ⟨_, _, fun w => find_yes i hi w, fun w => (rfind_any (nm i) w).mono ?_⟩
    rintro e w' ⟨⟨j, hj, he, rfl⟩ | ⟨hn, _⟩, hb⟩
    · obtain rfl : j = i := nm_apart j hj i hi (by rw [he])
      exact ⟨rfl, hb⟩
    · exact absurd rfl (hn i hi)
  · have hn : ∀ i, i < 76 → nm i ≠ s := fun i hi e => h ⟨i, hi, e⟩
    refine ⟨_, _, fun w => find_no s hs hn w, fun w => (rfind_any s w).mono ?_⟩
    rintro e w' ⟨⟨j, hj, he, _⟩ | ⟨_, rfl⟩, hb⟩
    · exact absurd he (hn j hj)
    · exact ⟨rfl, hb⟩
end Go.Proofs.Ytmoekapoajkaiaa
