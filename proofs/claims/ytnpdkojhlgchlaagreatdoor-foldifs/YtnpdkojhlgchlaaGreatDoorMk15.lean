/- Package fold's table of functions, slices.Clone of arguments, takes, may. Proved of the Go text. -/
import Derived.Test.YtnpdkojhlgchlaaGreatDoorGive15
import Derived.Maps.AppendAt
import Derived.Laws.Cover3
namespace Go.Proofs.YtnpdkojhlgchlaaGreatDoor
open Go.RowKit Go.Sort
open T9 (Blk Chg)
set_option linter.unusedVariables false

/-- The table: by the functions' numbers. -/
def ftab : List Nat := [40, 41, 42, 43, 44, 45, 46, 47, 48, 49, 50, 51, 52, 53, 54, 55, 56, 57, 58, 59, 60, 61, 62]
def fcatC : Array Value := (List.replicate 54 Value.nilFunc ++ ftab.map (fun n => Value.func (.func n) #[] #[])).toArray
theorem fcatC_size : fcatC.size = 77 := by decide +kernel
theorem ftab_len : ftab.length = 23 := rfl
theorem fcat_info : (Tryz.prog.info? 76).map (·.size) = some fcatC.size := by rw [fcatC_size]; kernel_rfl
theorem fcat_one : fcatC.all (·.oneCell') = true := by decide +kernel
def fzeroC : Array Value := (List.replicate 77 Value.nilFunc).toArray
theorem fzero_info : (Tryz.prog.info? 76).map (fun i => (i.zero, i.size)) = some (some (.agg fzeroC), 77) := by kernel_rfl
set_option maxRecDepth 100000 in
set_option maxHeartbeats 4000000 in
theorem frows_any (w : World) : Calls Tryz.prog 23 #[] w fun e w' => e = .returned (.agg fcatC) ∧ Below w.heap.size w w' := by
  have hz := (zero_of_info fzero_info).1
  go_enter Tryz.func23, Tryz.ntmps23
  try simp only [List.append]
  go_wp2_with (first
    | (refine wpList_build rfl 76 _ rfl (by kernel_rfl) ?_)
    | (refine T9.wpList_store_new rfl 76 _ _ rfl _ fcatC _ rfl rfl (by kernel_rfl) fcat_info (by rw [fcatC_size]; decide +kernel) fcat_one ?_))
  refine bodyPost_ret (v := .agg fcatC) (results_cell_row Tryz.results23 _ _ w.heap.size 76 fcatC (0, 0) _ rfl (heap_alloc_new w _) Tryz.underlying76 rfl fcat_info) rfl ?_
  exact ⟨rfl, step (Below.refl _ w) _⟩
theorem index77 (k : Nat) (fn : Nat) (hr : ftab[k]? = some fn) (w : World) : (Instr.index 76 (.agg fcatC) (.int .i64 ((k : Int) + 54))).run Tryz.prog w = .ok (.func (.func fn) #[] #[]) w := by
  have hk : k < 23 := by rw [← ftab_len]; exact (List.getElem?_eq_some_iff.1 hr).1
  have h0 : 0 ≤ (k : Int) + 54 ∧ (k : Int) + 54 < 77 := by omega
  have hn : ((k : Int) + 54).toNat = k + 54 := by omega
  have he : fcatC.toList = List.replicate 54 Value.nilFunc ++ ftab.map (fun n => Value.func (.func n) #[] #[]) := by unfold fcatC; simp
  have hg : fcatC[k + 54]? = some (.func (.func fn) #[] #[]) := by
    rw [← Array.getElem?_toList, he, List.getElem?_append_right (by simp)]
    simp [hr]
  simp [Instr.index, run_underlying Tryz.underlying76, asIntOf, h0, go_sem, hn]
  rw [hg]
  rfl
def flA (L : List Ag) : List Value := L.flatMap agL
theorem flA_len (L : List Ag) : (flA L).length = L.length * 8 := by
  induction L with
  | nil => rfl
  | cons a L ih => simp [flA, List.flatMap_cons] at ih ⊢; omega
theorem flA_at : ∀ (L : List Ag) (j : Nat) (x : Ag), L[j]? = some x → ∀ (i : Nat) (v : Value), (agL x)[i]? = some v → (flA L)[j * 8 + i]? = some v
  | [], j, x, h, _, _, _ => by simp at h
  | y :: L, 0, x, h, i, v, hv => by
    obtain rfl : y = x := by simpa using h
    have e : flA (y :: L) = agL y ++ flA L := by simp [flA]
    rw [e, List.getElem?_append_left (by have := (List.getElem?_eq_some_iff.1 hv).1; omega), Nat.zero_mul, Nat.zero_add]; exact hv
  | y :: L, j + 1, x, h, i, v, hv => by
    have ih := flA_at L j x (by simpa using h) i v hv
    have e : flA (y :: L) = agL y ++ flA L := by simp [flA]
    rw [e, List.getElem?_append_right (by simp; omega)]
    simp only [List.length_cons, List.length_nil]
    rw [show (j + 1) * 8 + i - (0 + 1 + 1 + 1 + 1 + 1 + 1 + 1 + 1) = j * 8 + i by omega]; exact ih
theorem info_parts {P : Program} {t : TypeId} {z : Value} {n b : Nat} (h : (P.info? t).map (fun i => (i.zero, i.size, i.bytes)) = some (some z, n, b)) : ∃ i, P.info? t = some i ∧ i.zero = some z ∧ i.size = n ∧ i.bytes = b := by
  cases hq : P.info? t with
  | none => simp [hq] at h
  | some i => simp [hq] at h; exact ⟨i, rfl, h.1, h.2.1, h.2.2⟩
theorem info_ag : (Tryz.prog.info? 41).map (fun i => (i.zero, i.size, i.bytes)) = some (some (agV ⟨false, 0, 0, 0, 0, ⟨0, 0, no⟩⟩), 8, 72) := by kernel_rfl
set_option maxRecDepth 100000 in
set_option maxHeartbeats 2000000 in
theorem clone_any (xs : List Ag) (hx : 0 < xs.length) (hl : xs.length ≤ 1000000) (a : Option Addr) (cap : Nat) (q : Nat → Prop) (w : World) (hq : ∀ k, q k → k < w.heap.size) (h : ArgsAt w q a xs) :
    Calls Tryz.prog 24 #[.slice a xs.length cap] w fun e w' => ∃ g cap', e = .returned (.slice (some ⟨g, 0, none⟩) xs.length cap') ∧ xs.length ≤ cap' ∧ w.heap.size ≤ g ∧ g < w'.heap.size ∧ (∀ (j : Nat) (x : Ag), xs[j]? = some x → w'.rangeAt g (0 + j * 8) (agL x)) ∧ Below w.heap.size w w' := by
  obtain ⟨b, o, rfl, hb, hr⟩ : ∃ b o, a = some ⟨b, o, none⟩ ∧ q b ∧ ∀ (j : Nat) (x : Ag), xs[j]? = some x → w.rangeAt b (o + j * 8) (agL x) := by
    rcases h with h | h
    · rw [h] at hx; cases hx
    · exact h
  replace hr := hide hr
  replace hq := hide hq
  obtain ⟨len, hlen⟩ : ∃ len, xs.length = len := ⟨_, rfl⟩
  rw [hlen]
  rw [hlen] at hx hl
  have hnil : ∀ w, (binOp .eql 29 (.slice (some ⟨b, o, none⟩) len cap) (.slice none 0 0)).run Tryz.prog w = .ok (.bool false) w := fun w => by
    simp [binOp, run_equal_slice_nil w 29 41 _ _ _ Tryz.underlying29, go_sem]
  go_enter Tryz.func24, Tryz.ntmps24
  obtain ⟨i0, hi0, hz0, hz1, hz2⟩ := info_parts info_ag
  have hown : (w.alloc (.cells #[] 41)).ownsRow w.heap.size 41 8 (.slice (some ⟨w.heap.size, 0, none⟩) 0 0) 0 [] := ⟨rfl, .inr ⟨w.heap.size, 0, #[], rfl, Nat.le_refl _, heap_alloc_new w _, by simp, by simp, by simp⟩⟩
  have hnews : ∀ j u, (flA xs)[j]? = some u → (w.alloc (.cells #[] 41)).cell? ((⟨b, o, none⟩ : Addr).add j) = some u := fun j u hj => by
    rw [Lib.add_plain]
    have hj' : j < xs.length * 8 := by rw [← flA_len]; exact (List.getElem?_eq_some_iff.1 hj).1
    have hq1 : j / 8 < xs.length := by omega
    have hq2 : j % 8 < (agL (xs[j / 8])).length := by show j % 8 < 8; omega
    have e1 := flA_at xs (j / 8) _ (List.getElem?_eq_getElem hq1) (j % 8) _ (List.getElem?_eq_getElem hq2)
    rw [show j / 8 * 8 + j % 8 = j by omega, hj] at e1
    have e2 := hr.out (j / 8) _ (List.getElem?_eq_getElem hq1) (j % 8) _ (List.getElem?_eq_getElem hq2)
    rw [show o + j / 8 * 8 + j % 8 = o + j by omega, ← e1] at e2
    exact T9.range_of_block (w := w) (b := b) (o := o + j) (cs := [u]) (fun i v hv => by
      match i, hv with
      | 0, hv => obtain rfl : u = v := by simpa using hv
                 exact e2
      | i + 1, hv => simp at hv) (Below.heap_alloc w _ b (hq.out b hb)) 0 u rfl
  have hone : ∀ u ∈ flA xs, u.oneCell' = true := by
    intro u hu
    unfold flA at hu
    obtain ⟨x, _, hx⟩ := List.mem_flatMap.1 hu
    simp at hx
    rcases hx with rfl | rfl | rfl | rfl | rfl | rfl | rfl | rfl <;> rfl
  replace hown := hide hown
  replace hnews := hide hnews
  replace hone := hide hone
  have hfl := hide (flA_len xs)
  rw [hlen] at hfl
  go_wp2_with (refine wpList_append_own_at _ rfl _ _ 29 rfl w.heap.size 41 i0 _ 8 72 Tryz.underlying29 hi0 hz0 hz1 hz2 rfl (by decide) _ 0 [] rfl hown.out ⟨b, o, none⟩ len cap (flA xs) rfl hfl.out hnews.out hone.out (by unfold maxLen; omega) (by omega) (by simp) ?_; intro v' w' g1 g2 g3 g4)
  rw [List.nil_append, Nat.zero_add] at g1
  rcases g1.2 with ⟨_, h0⟩ | ⟨g, cap', cur, rfl, k1, k2, k3, k4, k5, k6⟩
  · omega
  · go_ret
    refine ⟨g, cap', rfl, k3, k1, (Array.getElem?_eq_some_iff.1 k2).1, fun j x hjx i v hv => ?_, ?_⟩
    · have e1 := flA_at xs j x hjx i v hv
      rw [Nat.zero_add, cell_of_row w' g _ cur _ (0, 0) k2, ← Array.getElem?_toList]
      rw [← k6, List.getElem?_take] at e1
      split at e1
      · exact e1
      · cases e1
    · have b1 : Below w.heap.size w (w.alloc (.cells #[] 41)) := step (Below.refl _ _) _
      exact ⟨g2.os.trans b1.os, g2.tape.trans b1.tape, g2.output.trans b1.output, Nat.le_trans b1.size g2.size, fun k hk => (g2.block k (Nat.lt_of_lt_of_le hk b1.size) (fun e => by have := Option.some.inj (show some k = some w.heap.size from e); omega)).trans (b1.block k hk)⟩
set_option maxHeartbeats 1000000 in
set_option maxRecDepth 100000 in
theorem may_yes (a : Ag) (ok : AgOk a) : CallIs 22 #[agV a] (.int .i64 0) := by
  intro w
  obtain ⟨is, t, l, b, r, ⟨vk, vi, vt⟩⟩ := a
  cases is with
  | false =>
    have hv : VaOk ⟨vk, vi, vt⟩ := by unfold AgOk at ok; simpa using ok
    have HM := vmay_yes hv.1
    clear hv ok
    go_enter Tryz.func22, Tryz.ntmps22
    go_wp2_with fail
    refine (HM.out _).mono ?_
    rintro e w1 ⟨rfl, hb1⟩
    go_wp2_with fail
    go_ret
    exact ⟨rfl, next (step (Below.refl _ _) _) hb1⟩
  | true =>
    unfold AgOk at ok
    simp only [if_true] at ok
    obtain ⟨ho, hm⟩ := ok
    have hp : ¬ 4096 < (b - t + 1) * (r - l + 1) := by
      unfold Ag.many Ag.cols at hm
      have e1 : ((b - t + 1).toNat : Int) = b - t + 1 := Int.toNat_of_nonneg (by omega)
      have e2 : ((r - l + 1).toNat : Int) = r - l + 1 := Int.toNat_of_nonneg (by omega)
      have : (((b - t + 1).toNat * (r - l + 1).toNat : Nat) : Int) ≤ 4096 := by exact_mod_cast hm
      rw [Int.natCast_mul, e1, e2] at this
      omega
    have HZ := hide (fun w => T3.asize_yes t l b r w ho hp (fun w => by have := T3.amay_any t l b r w; rw [T3.eA_ok ho] at this; exact this))
    generalize (b - t + 1) * (r - l + 1) = z at *
    clear hp ho hm
    go_enter Tryz.func22, Tryz.ntmps22
    go_wp2_with fail
    refine (HZ.out _).mono ?_
    rintro e w1 ⟨rfl, hb1⟩
    go_wp2_with fail
    go_ret
    exact ⟨rfl, next (step (Below.refl _ _) _) hb1⟩
set_option maxHeartbeats 1000000 in
set_option maxRecDepth 100000 in
theorem takes_yes (nm : ByteArray) (c mn mx n : Int) (h1 : mn ≤ n) (h2 : n ≤ mx ∨ mx = -1) : CallIs 21 #[.agg #[.string nm, .int .i64 c, .int .i64 mn, .int .i64 mx], .int .i64 n] (.bool true) := by
  intro w
  by_cases h3 : n ≤ mx
  · go_enter Tryz.func21, Tryz.ntmps21
    go_wp2_with fail
    go_ret
    exact ⟨rfl, by go_grown⟩
  · obtain rfl : mx = -1 := by rcases h2 with h | h; exact absurd h h3; exact h
    go_enter Tryz.func21, Tryz.ntmps21
    go_wp2_with fail
    go_ret
    exact ⟨rfl, by go_grown⟩
end Go.Proofs.YtnpdkojhlgchlaaGreatDoor
