/- package print's small functions: what they answer. -/
import Derived.Test.YtnfoknifofglbaaDoorQt11
import Derived.Test.YtnfoknifofglbaaDoorPartsN9
namespace Go.Proofs.YtnfoknifofglbaaDoor.T9
open Go.RowKit Go.Sort
set_option linter.unusedVariables false

abbrev ba (l : List UInt8) : ByteArray := ⟨l.toArray⟩
theorem ba_list (l : List UInt8) : (ba l).data.toList = l := by simp
theorem ba_size (l : List UInt8) : (ba l).size = l.length := by rw [Lib.size_eq, ba_list]
theorem ba_of (s : ByteArray) : ba s.data.toList = s := rfl
theorem ba_app (a b : List UInt8) : ba a ++ ba b = ba (a ++ b) := by
  apply ByteArray.ext
  apply Array.ext'
  simp [ByteArray.data_append]
/-- Print's table of operations. -/
def opTab : List (List UInt8 × Int) := [([], 0), ([94], 5), ([42], 4), ([47], 4), ([43], 3), ([45], 3), ([38], 2), ([61], 1), ([60, 62], 1), ([60], 1), ([60, 61], 1), ([62], 1), ([62, 61], 1)]
def opC : Array Value := (opTab.flatMap fun p => [Value.string (ba p.1), .int .i64 p.2]).toArray
/-- What the world must hold. -/
structure Lay11 (w : World) : Prop where
  tab : Tab w
  mx : ∃ m, w.cell? ⟨2, 0, none⟩ = some (.int .i64 m)
  op : ∃ t fr, w.heap[0]? = some (.cells opC t fr)
theorem keep1 {W w1 : World} {b o : Nat} {v : Value} (hb : Below W.heap.size W w1) (h : W.cell? ⟨b, o, none⟩ = some v) : w1.cell? ⟨b, o, none⟩ = some v := by
  rw [hb.cell (p := ⟨b, o, none⟩) (block_lt_of_cell h)]; exact h
theorem Lay11.keep {W w1 : World} (h : Lay11 W) (hb : Below W.heap.size W w1) : Lay11 w1 :=
  ⟨tab_below h.tab hb, by obtain ⟨m, e⟩ := h.mx; exact ⟨m, keep1 hb e⟩, by obtain ⟨t, fr, e⟩ := h.op; exact ⟨t, fr, (hb.block _ (Array.getElem?_eq_some_iff.1 e).1).trans e⟩⟩
theorem Lay11.alloc {W : World} (h : Lay11 W) (o : Obj) : Lay11 (W.alloc o) := h.keep ((Below.refl _ _).alloc (Nat.le_refl _) _)
theorem Lay11.at {w : World} (h : Lay11 w) (j : Nat) : w.cell? ⟨0, j, none⟩ = opC[j]? := by
  obtain ⟨t, fr, e⟩ := h.op
  simp [World.cell?, e]
theorem Lay11.lev {w : World} (h : Lay11 w) {op : Int} (ho : 1 ≤ op ∧ op ≤ 12) : w.cell? ⟨0, op.toNat * 2 + 1, none⟩ = some (.int .i64 (lvB op)) := by
  rw [h.at]
  rcases op_cases ho with rfl | rfl | rfl | rfl | rfl | rfl | rfl | rfl | rfl | rfl | rfl | rfl
  all_goals rfl
theorem Lay11.sgn {w : World} (h : Lay11 w) {op : Int} (ho : 1 ≤ op ∧ op ≤ 12) : w.cell? ⟨0, op.toNat * 2, none⟩ = some (.string (ba (sgB op))) := by
  rw [h.at]
  rcases op_cases ho with rfl | rfl | rfl | rfl | rfl | rfl | rfl | rfl | rfl | rfl | rfl | rfl
  all_goals rfl
set_option maxHeartbeats 1000000 in
set_option maxRecDepth 100000 in
theorem levelOf_any (n : Nd) (s : Value) (w : World) (hl : Lay11 w) (ho : n.kind = 8 → 1 ≤ n.op ∧ n.op ≤ 12) : Calls Tryd.prog 31 #[exV n s] w fun e w' => e = .returned (.int .i64 (lv n)) ∧ Below w.heap.size w w' := by
  have A := at14 n s
  have c0 := A.c0
  have c1 := A.c1
  clear A
  by_cases h8 : n.kind = 8
  · have hv : lv n = lvB n.op := by unfold lv; rw [if_pos h8]
    have HL := hide (hl.alloc (exO n s))
    have o1 := (ho h8).1
    have o2 := (ho h8).2
    have o3 : 0 ≤ n.op := by omega
    have o4 : n.op < 13 := by omega
    have HC := HL.out.lev (ho h8)
    rw [hv]
    clear hv hl ho
    go_enter Tryd.func31, Tryd.ntmps31
    go_wp2_with fail
    go_ret
    exact ⟨rfl, by go_grown⟩
  · by_cases h7 : n.kind = 7
    · by_cases h3 : n.op = 3
      · have hv : lv n = 7 := by unfold lv; rw [if_neg h8, if_pos h7, if_pos h3]
        rw [hv]
        clear hv hl ho
        go_enter Tryd.func31, Tryd.ntmps31
        go_wp2_with fail
        go_ret
        exact ⟨rfl, by go_grown⟩
      · have hv : lv n = 6 := by unfold lv; rw [if_neg h8, if_pos h7, if_neg h3]
        rw [hv]
        clear hv hl ho
        go_enter Tryd.func31, Tryd.ntmps31
        go_wp2_with fail
        go_ret
        exact ⟨rfl, by go_grown⟩
    · have hv : lv n = 8 := by unfold lv; rw [if_neg h8, if_neg h7]
      rw [hv]
      clear hv hl ho
      go_enter Tryd.func31, Tryd.ntmps31
      go_wp2_with fail
      go_ret
      exact ⟨rfl, by go_grown⟩
theorem signsOf_any (op : Int) (w : World) : Calls Tryd.prog 33 #[.int .i64 op] w fun e w' => e = .returned (.tuple #[.string (ba (aheadL op)), .string (ba (behindL op))]) ∧ Below w.heap.size w w' := by
  by_cases h1 : op = 1
  · subst h1
    go_enter Tryd.func33, Tryd.ntmps33
    go_wp2_with fail
    go_ret2
    exact ⟨rfl, by go_grown⟩
  · by_cases h2 : op = 2
    · subst h2
      go_enter Tryd.func33, Tryd.ntmps33
      go_wp2_with fail
      go_ret2
      exact ⟨rfl, by go_grown⟩
    · have e1 : aheadL op = [] := by unfold aheadL; rw [if_neg h1, if_neg h2]
      have e2 : behindL op = [37] := by unfold behindL; rw [if_neg h1, if_neg h2]
      rw [e1, e2]
      clear e1 e2
      go_enter Tryd.func33, Tryd.ntmps33
      go_wp2_with fail
      go_ret2
      exact ⟨rfl, by go_grown⟩
theorem mistake_any (n : Int) (h : 1 ≤ n ∧ n ≤ 6) (w : World) : Calls Tryd.prog 55 #[.int .i64 n] w fun e w' => e = .returned (.string (ba (errL n))) ∧ Below w.heap.size w w' := by
  rcases (show n = 1 ∨ n = 2 ∨ n = 3 ∨ n = 4 ∨ n = 5 ∨ n = 6 by omega) with rfl | rfl | rfl | rfl | rfl | rfl
  all_goals
    go_enter Tryd.func55, Tryd.ntmps55
    go_wp2_with fail
    go_ret
    exact ⟨rfl, by go_grown⟩
set_option maxHeartbeats 1000000 in
theorem ptext_any (r : Rf) (w : World) (hl : Lay11 w) (hm : mayB r.row r.col = true) : Calls Tryd.prog 56 #[rfV r] w fun e w' => e = .returned (.string (ba (rfT r))) ∧ Below w.heap.size w w' := by
  obtain ⟨row, col, p, q⟩ := r
  have hm := of_decide_eq_true hm
  obtain ⟨x, rfl⟩ : ∃ x : Nat, row = x := ⟨row.toNat, by simp at hm; omega⟩
  obtain ⟨y, rfl⟩ : ∃ y : Nat, col = y := ⟨col.toNat, by simp at hm; omega⟩
  simp only at hm
  have HR := hide (refText_yes x y p q (w.alloc (.cells #[.int .i64 x, .int .i64 y, .bool p, .bool q] 23)) (by omega) (by omega) (hl.alloc _).tab)
  have HR0 := hide (refText_yes x y p q w (by omega) (by omega) hl.tab)
  have e : rfT ⟨x, y, p, q⟩ = (refB x y p q).data.toList := rfl
  rw [e, ba_of]
  generalize refB x y p q = s at *
  clear e hm hl
  go_enter Tryd.func56, Tryd.ntmps56
  go_wp2_with (first
    | (go_at_call 69; refine (by with_reducible exact HR.out : Calls _ _ _ _ _).mono ?_; rintro e w1 ⟨rfl, hb⟩; have b1 := hide (next (step (Below.refl w.heap.size w) _) hb))
    | (go_at_call 69; refine (by with_reducible exact HR0.out : Calls _ _ _ _ _).mono ?_; rintro e w1 ⟨rfl, hb⟩; have b1 := hide hb))
  go_ret
  exact ⟨rfl, b1.out⟩
set_option maxHeartbeats 400000 in
theorem ptxt_any (n : Int) (w : World) (h0 : -9223372036854775808 ≤ n) (h1 : n ≤ 9223372036854775807) (ht : Tab w) :
    Calls Tryd.prog 53 #[.int .i64 n] w fun e w' => e = .returned (.string ⟨(Lib.itoa n).toArray⟩) ∧ Below w.heap.size w w' := by
  have HT := hide (Tryd.strconv_FormatInt_10 n h0 h1 w ht)
  clear ht
  go_enter Tryd.func53, Tryd.ntmps53
  go_wp2_with (go_at_call 67; refine HT.out.mono ?_; rintro e w' ⟨rfl, k, os, rfl⟩)
  go_ret
  exact ⟨rfl, below_grows w k os⟩
theorem name_row {f : Int} (h : 1 ≤ f ∧ f ≤ 76) : ∃ k : Nat, ∃ hk : k < 76, f = (k : Int) + 1 ∧ nameL f = (tab[k]'(by rw [tab_len]; exact hk)).1.data.toList := by
  refine ⟨(f - 1).toNat, by omega, by omega, ?_⟩
  unfold nameL rowOf
  rw [if_pos h, List.getElem?_eq_getElem (by rw [tab_len]; omega)]
set_option maxHeartbeats 1000000 in
theorem nameOf_any (f : Int) (h : 1 ≤ f ∧ f ≤ 76) (w : World) : Calls Tryd.prog 35 #[.int .i64 f] w fun e w' => e = .returned (.string (ba (nameL f))) ∧ Below w.heap.size w w' := by
  obtain ⟨k, hk, rfl, hn⟩ := name_row h
  have HI := hide (info_yes k hk)
  rw [hn, ba_of]
  generalize tab[k] = r at *
  obtain ⟨n, mn, mx⟩ := r
  clear hn h
  go_enter Tryd.func35, Tryd.ntmps35
  go_wp2_with (first
    | (go_at_call 52; refine (HI.out _).mono ?_; rintro e w1 ⟨rfl, hb⟩; have b1 := hide hb))
  go_ret
  exact ⟨rfl, step b1.out _⟩
end Go.Proofs.YtnfoknifofglbaaDoor.T9
