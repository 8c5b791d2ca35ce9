/- What lex.isReference and speltSize answer, for every text: proved of the Go text. -/
import Derived.Test.YtcabgnikbgoikaaDoorKit8
namespace Go.Proofs.YtcabgnikbgoikaaDoor
open Go.RowKit Go.Sort
set_option linter.unusedVariables false

theorem find_at {α : Type} (p : α → Bool) : ∀ (l : List α) (k : Nat) (hk : k < l.length), (∀ j (hj : j < k), p (l[j]'(by omega)) = false) → p l[k] = true → l.find? p = some l[k]
  | a :: l, 0, hk, h, h1 => by rw [List.find?_cons]; simp at h1 ⊢; rw [h1]
  | a :: l, k + 1, hk, h, h1 => by
    have h0 := h 0 (by omega)
    simp at h0
    rw [List.find?_cons, h0]
    exact find_at p l k (by simpa using hk) (fun j hj => by have := h (j + 1) (by omega); simpa using this) (by simpa using h1)
/-- How long the spelt word is that begins a text. -/
def spLen (l : List UInt8) : Nat := match spFind l with
  | none => 0
  | some p => p.length
theorem spLen_at {l : List UInt8} (k : Nat) (hk : k < spelts.length) (h : ∀ j (hj : j < k), Lib.hasPrefix l (spelts[j]'(by omega)) = false) (h1 : Lib.hasPrefix l spelts[k] = true) : spLen l = spelts[k].length := by
  have : spFind l = some spelts[k] := find_at (Lib.hasPrefix l ·) spelts k hk h h1
  unfold spLen; rw [this]
theorem spLen_none {l : List UInt8} (h : ∀ j (hj : j < spelts.length), Lib.hasPrefix l spelts[j] = false) : spLen l = 0 := by
  have : spFind l = none := by
    unfold spFind
    rw [List.find?_eq_none]
    intro x hx
    obtain ⟨j, hj, rfl⟩ := List.mem_iff_getElem.1 hx
    rw [h j hj]; decide
  unfold spLen; rw [this]
theorem isReference8 (s : ByteArray) (hs : s.size ≤ maxLen) : CallIs 39 #[.string s] (.bool (decide (rN s = s.size))) := by
  intro w
  have HR := hide (fun w => readRef_any s w hs)
  have hs' : s.size ≤ 9223372036854775807 := hs
  have HB : Hid (decide (rN s = s.size) = ((rN s : Int) == s.size)) := hide (by rw [Bool.eq_iff_iff]; simp; omega)
  generalize rN s = n at *
  generalize rE s = e at *
  generalize rR s = r at *
  generalize rC s = c at *
  generalize rP s = p at *
  generalize rQ s = q at *
  go_enter Tryd.func39, Tryd.ntmps39
  go_wp2_with fail
  refine (HR.out _).mono ?_
  rintro e w' ⟨rfl, rfl⟩
  go_wp2_with fail
  go_ret
  refine ⟨ret_bool ?_, by go_grown⟩
  rw [HB.out]
theorem index23 (cs : Array Value) (k : Nat) (hk : k < 23) (hc : cs.size = 23) (w : World) : (Instr.index 68 (.agg cs) (.int .i64 k)).run Tryd.prog w = .ok (cs[k]'(by omega)) w := by
  have h0 : 0 ≤ (k : Int) ∧ (k : Int) < 23 := by omega
  simp [Instr.index, run_underlying Tryd.underlying68, asIntOf, h0, go_sem]
  rw [if_pos hk, Array.getElem?_eq_getElem (by omega)]
  rfl
set_option maxRecDepth 100000 in
set_option maxHeartbeats 4000000 in
theorem speltSize8 (s : ByteArray) : Hid (∀ w, Lay8 w → Calls Tryd.prog 29 #[.string s] w fun e w' => e = .returned (.int .i64 (spLen s.data.toList)) ∧ w' = w) := by
  intro w hl
  obtain ⟨t, fr, hsp⟩ := hl.sp
  obtain ⟨cs, hcs⟩ : ∃ cs : Array Value, (spelts.map fun p => Value.string (ba p)).toArray = cs := ⟨_, rfl⟩
  obtain ⟨q, hq⟩ : ∃ q : Nat → List UInt8, ∀ j (h : j < spelts.length), spelts[j] = q j := ⟨fun j => if h : j < spelts.length then spelts[j] else [], fun j h => (dif_pos h).symm⟩
  have SA : Hid (∀ k, k < 23 → (∀ j, j < k → Lib.hasPrefix s.data.toList (q j) = false) → Lib.hasPrefix s.data.toList (q k) = true → spLen s.data.toList = (q k).length) := hide (fun k hk h h1 => by
    have hk' : k < spelts.length := hk
    rw [← hq k hk'] at h1 ⊢
    exact spLen_at k hk' (fun j hj => by rw [hq j (Nat.lt_trans hj hk')]; exact h j hj) h1)
  have SN : Hid ((∀ j, j < 23 → Lib.hasPrefix s.data.toList (q j) = false) → spLen s.data.toList = 0) := hide (fun h => spLen_none (fun j hj => by rw [hq j hj]; exact h j hj))
  have SZ : Hid (∀ k, k < 23 → (q k).length ≤ 7) := hide (fun k hk => by rw [← hq k hk]; exact (sp_facts (List.getElem_mem _)).2.1)
  have hcz : cs.size = 23 := by rw [← hcs, List.size_toArray, List.length_map]; rfl
  have HI : Hid (∀ (k : Nat) w, k < 23 → (Instr.index 68 (.agg cs) (.int .i64 k)).run Tryd.prog w = .ok (.string (ba (q k))) w) := hide (fun k w hk => by
    rw [index23 cs k hk hcz w]
    have hk' : k < spelts.length := hk
    simp only [← hcs, List.getElem_toArray, List.getElem_map, hq k hk'])
  rw [hcs] at hsp
  have hld : (Tryd.prog.info? 68).map (·.size) = some cs.size := by rw [hcz]; kernel_rfl
  clear hl hq hcs
  generalize spLen s.data.toList = N at *
  have HP := hide (fun w p => Tryd.strings_HasPrefix s (ba p) w)
  go_enter Tryd.func29, Tryd.ntmps29
  go_wp2_with (refine wpList_load_row rfl 68 (.global 0) rfl 0 rfl t cs fr _ hsp Tryd.underlying68 rfl hld ?_)
  go_loop [4, 6] (fun _ i => ∃ k : Nat, k ≤ 23 ∧ i = .int .i64 k ∧ Hid (∀ j, j < k → Lib.hasPrefix s.data.toList (q j) = false)) (fun _ i => 23 - (intOf i).toNat)
  case atStart => exact ⟨0, Nat.zero_le _, rfl, hide (fun j hj => absurd hj (Nat.not_lt_zero j))⟩
  case round =>
    obtain ⟨k, hk, rfl, Hr⟩ := hrel
    by_cases hlt : k < 23
    · have hix := fun w => HI.out k w hlt
      cases hc : Lib.hasPrefix s.data.toList (q k)
      · have HN : Hid (∀ j, j < k + 1 → Lib.hasPrefix s.data.toList (q j) = false) := hide (fun j hj => by
          by_cases e : j = k
          · rw [e]; exact hc
          · exact Hr.out j (by omega))
        have HC := hide (fun w => HP.out w (q k))
        rw [hc] at HC
        go_wp2_with (go_at_call 22; refine (HC.out _).mono ?_; rintro e w' ⟨rfl, rfl⟩)
        go_round
        case rel => exact ⟨k + 1, by omega, by go_num, HN⟩
        case measure => simp [intOf]; omega
      · have HN := hide (SA.out k hlt Hr.out hc)
        have HC := hide (fun w => HP.out w (q k))
        have hz := SZ.out k hlt
        rw [hc] at HC
        go_wp2_with (go_at_call 22; refine (HC.out _).mono ?_; rintro e w' ⟨rfl, rfl⟩)
        go_ret
        exact ⟨ret_int (by rw [HN.out]), rfl⟩
    · have HN := hide (SN.out (fun j hj => Hr.out j (by omega)))
      go_wp2_with fail
      go_ret
      exact ⟨ret_int (by rw [HN.out]; rfl), rfl⟩
end Go.Proofs.YtcabgnikbgoikaaDoor
