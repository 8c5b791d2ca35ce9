/- print.leafText: the text of a node that has no kids by its kind. -/
import Derived.Test.YtnfoknifofglbaaDoorPrt11
namespace Go.Proofs.YtnfoknifofglbaaDoor.T9
open Go.RowKit Go.Sort
set_option linter.unusedVariables false

theorem addl_run {a b : List UInt8} (h : a.length + b.length ≤ 9223372036854775807) (w : World) : (Op.stringOp .add (ba a) (ba b)).run Tryd.prog w = .ok (.string (ba (a ++ b))) w := by
  rw [← ba_app]; exact add_run (by rw [ba_size, ba_size]; exact h) w
set_option maxHeartbeats 1000000 in
set_option maxRecDepth 100000 in
theorem leaf_1 (n : Nd) (s : Value) (w : World) (hl : Lay11 w) (hk : n.kind = 1) (h0 : 0 ≤ n.num) (h1 : n.num ≤ 9223372036854775807) : Calls Tryd.prog 36 #[exV n s] w fun e w' => e = .returned (.string (ba (leafL n))) ∧ Below w.heap.size w w' := by
  have e : leafL n = Lib.itoa n.num := by unfold leafL; rw [if_pos hk]
  rw [e]
  obtain ⟨a0, a1, a2, a3, a4, a5, a6, a7, a8, a9, a10, a11, a12, a13⟩ := at14 n s
  have HT := hide (ptxt_any n.num (w.alloc (exO n s)) (by omega) h1 (hl.alloc _).tab)
  clear hl e h0 h1
  go_enter Tryd.func36, Tryd.ntmps36
  go_wp2_with (first
    | (go_at_call 53; refine HT.out.mono ?_; rintro e w1 ⟨rfl, hb⟩; have b1 := hide (next (step (Below.refl w.heap.size w) _) hb)))
  go_ret
  exact ⟨rfl, b1.out⟩
set_option maxHeartbeats 1000000 in
set_option maxRecDepth 100000 in
theorem leaf_2 (n : Nd) (s : Value) (w : World) (hl : Lay11 w) (hk : n.kind = 2) (hz : n.text.size ≤ 16384) : Calls Tryd.prog 36 #[exV n s] w fun e w' => e = .returned (.string (ba (leafL n))) ∧ Below w.heap.size w w' := by
  have e : leafL n = 34 :: (qt n.text.data.toList ++ [34]) := by unfold leafL; rw [if_neg (by omega), if_pos hk]; rfl
  have hq := qt_len n.text.data.toList
  have hz' := Lib.size_eq n.text
  rw [e]
  obtain ⟨a0, a1, a2, a3, a4, a5, a6, a7, a8, a9, a10, a11, a12, a13⟩ := at14 n s
  obtain ⟨m, hm⟩ := (hl.alloc (exO n s)).mx
  have HR := hide (Tryd.strings_ReplaceAll n.text (ba [34]) (ba [34, 34]) m (w.alloc (exO n s)) (by omega) hm (by decide) (by
    have h1 := Lib.countB_le (ba [34]) (by decide) n.text.size n.text (Nat.le_refl _)
    have h3 : (ba [34, 34]).size = 2 := rfl
    rw [h3]; omega))
  rw [show (ba [34, 34]).data.toList = [34, 34] from rfl, show (ba [34]).data.toList = [34] from rfl, replace_qt] at HR
  generalize qt n.text.data.toList = U at *
  have s1 := fun w => addl_run (a := [34]) (b := U) (by simp; omega) w
  have s2 := fun w => addl_run (a := 34 :: U) (b := [34]) (by simp; omega) w
  clear hl e hm hq hz' hz
  go_enter Tryd.func36, Tryd.ntmps36
  go_wp2_with (first
    | (go_at_call 54; refine HR.out.mono ?_; rintro e w1 ⟨rfl, hb⟩; have b1 := hide (next (step (Below.refl w.heap.size w) _) hb)))
  go_ret
  exact ⟨rfl, b1.out⟩
set_option maxHeartbeats 1000000 in
set_option maxRecDepth 100000 in
theorem leaf_3 (n : Nd) (s : Value) (w : World) (hk : n.kind = 3) : Calls Tryd.prog 36 #[exV n s] w fun e w' => e = .returned (.string (ba (leafL n))) ∧ Below w.heap.size w w' := by
  have e : leafL n = if n.num = 1 then [84, 82, 85, 69] else [70, 65, 76, 83, 69] := by unfold leafL; rw [if_neg (by omega), if_neg (by omega), if_pos hk]
  rw [e]
  obtain ⟨a0, a1, a2, a3, a4, a5, a6, a7, a8, a9, a10, a11, a12, a13⟩ := at14 n s
  clear e
  by_cases h1 : n.num = 1
  · rw [if_pos h1]
    go_enter Tryd.func36, Tryd.ntmps36
    go_wp2_with fail
    go_ret
    exact ⟨rfl, by go_grown⟩
  · rw [if_neg h1]
    go_enter Tryd.func36, Tryd.ntmps36
    go_wp2_with fail
    go_ret
    exact ⟨rfl, by go_grown⟩
set_option maxHeartbeats 1000000 in
set_option maxRecDepth 100000 in
theorem leaf_4 (n : Nd) (s : Value) (w : World) (hk : n.kind = 4) (h : 1 ≤ n.num ∧ n.num ≤ 6) : Calls Tryd.prog 36 #[exV n s] w fun e w' => e = .returned (.string (ba (leafL n))) ∧ Below w.heap.size w w' := by
  have e : leafL n = errL n.num := by unfold leafL; rw [if_neg (by omega), if_neg (by omega), if_neg (by omega), if_pos hk]
  rw [e]
  obtain ⟨a0, a1, a2, a3, a4, a5, a6, a7, a8, a9, a10, a11, a12, a13⟩ := at14 n s
  have HM := hide (mistake_any n.num h (w.alloc (exO n s)))
  clear e h
  go_enter Tryd.func36, Tryd.ntmps36
  go_wp2_with (first
    | (go_at_call 55; refine HM.out.mono ?_; rintro e w1 ⟨rfl, hb⟩; have b1 := hide (next (step (Below.refl w.heap.size w) _) hb)))
  go_ret
  exact ⟨rfl, b1.out⟩
set_option maxHeartbeats 1000000 in
set_option maxRecDepth 100000 in
theorem leaf_5 (n : Nd) (s : Value) (w : World) (hl : Lay11 w) (hk : n.kind = 5) (hm : mayB n.ref.row n.ref.col = true) : Calls Tryd.prog 36 #[exV n s] w fun e w' => e = .returned (.string (ba (leafL n))) ∧ Below w.heap.size w w' := by
  have e : leafL n = rfT n.ref := by unfold leafL; rw [if_neg (by omega), if_neg (by omega), if_neg (by omega), if_neg (by omega), if_neg (by omega)]
  rw [e]
  obtain ⟨a0, a1, a2, a3, a4, a5, a6, a7, a8, a9, a10, a11, a12, a13⟩ := at14 n s
  have HR := hide (ptext_any n.ref (w.alloc (exO n s)) (hl.alloc _) hm)
  clear e hm hl
  go_enter Tryd.func36, Tryd.ntmps36
  go_wp2_with (first
    | (go_at_call 56; refine HR.out.mono ?_; rintro e w1 ⟨rfl, hb⟩; have b1 := hide (next (step (Below.refl w.heap.size w) _) hb)))
  go_ret
  exact ⟨rfl, b1.out⟩
set_option maxHeartbeats 1000000 in
set_option maxRecDepth 100000 in
theorem leaf_6 (n : Nd) (s : Value) (w : World) (hl : Lay11 w) (hk : n.kind = 6) (hm : mayB n.ref.row n.ref.col = true) (hm2 : mayB n.to.row n.to.col = true) : Calls Tryd.prog 36 #[exV n s] w fun e w' => e = .returned (.string (ba (leafL n))) ∧ Below w.heap.size w w' := by
  have e : leafL n = (rfT n.ref ++ [58]) ++ rfT n.to := by unfold leafL; rw [if_neg (by omega), if_neg (by omega), if_neg (by omega), if_neg (by omega), if_pos hk]
  rw [e]
  obtain ⟨a0, a1, a2, a3, a4, a5, a6, a7, a8, a9, a10, a11, a12, a13⟩ := at14 n s
  have z1 := rfT_len _ hm
  have z2 := rfT_len _ hm2
  have cR := fun d os => Calls.regrown_of (ptext_any n.ref (grow (redrawn (w.alloc (exO n s)) d) os) ((hl.alloc _).keep (below_regrown _ d os)) hm)
  have cT := fun d os => Calls.regrown_of (ptext_any n.to (grow (redrawn (w.alloc (exO n s)) d) os) ((hl.alloc _).keep (below_regrown _ d os)) hm2)
  have P0 := Blk.new w (exC n s) 26
  have k4 := cell_regrown ((P0.at' 4).trans a4)
  have k5 := cell_regrown ((P0.at' 5).trans a5)
  have k6 := cell_regrown ((P0.at' 6).trans a6)
  have k7 := cell_regrown ((P0.at' 7).trans a7)
  have k8 := cell_regrown ((P0.at' 8).trans a8)
  have k9 := cell_regrown ((P0.at' 9).trans a9)
  have k10 := cell_regrown ((P0.at' 10).trans a10)
  have k11 := cell_regrown ((P0.at' 11).trans a11)
  replace P0 := hide P0
  generalize rfT n.ref = U at *
  generalize rfT n.to = V at *
  have s1 := fun w => addl_run (a := U) (b := [58]) (by simp; omega) w
  have s2 := fun w => addl_run (a := U ++ [58]) (b := V) (by simp; omega) w
  clear e hm hm2 hl z1 z2
  go_enter Tryd.func36, Tryd.ntmps36
  go_wp2_with fail
  refine wp_region_quiet_below (by kernel_rfl) (by kernel_rfl) ?_
  repeat (go_big_quiet_step (first | (with_reducible exact cR _ _) | (with_reducible exact cT _ _)))
  refine wpQuiet_nil ?_
  intro _ hw'
  obtain ⟨⟨dq, osq⟩, hw''⟩ := hw'
  subst hw''
  go_wp2_with fail
  go_ret
  refine ⟨?_, next (step (Below.refl w.heap.size w) _) (below_regrown _ dq osq)⟩
  first
    | rfl
    | (simp [List.append_assoc]; done)
    | trace_state
theorem leaf_any (n : Nd) (len : Nat) (s : Value) (w : World) (hl : Lay11 w) (h : toldB n len = true) (h7 : n.kind ≠ 7) (h8 : n.kind ≠ 8) (h9 : n.kind ≠ 9) (hi : n.num ≤ 9223372036854775807) (hz : n.kind = 2 → n.text.size ≤ 16384) :
    Calls Tryd.prog 36 #[exV n s] w fun e w' => e = .returned (.string (ba (leafL n))) ∧ Below w.heap.size w w' := by
  unfold toldB at h
  rw [Bool.and_eq_true, Bool.and_eq_true] at h
  have ho := h.1.1
  unfold okOf at ho
  by_cases k1 : n.kind = 1
  · rw [if_pos k1] at ho; exact leaf_1 n s w hl k1 (of_decide_eq_true ho) hi
  rw [if_neg k1] at ho
  by_cases k2 : n.kind = 2
  · exact leaf_2 n s w hl k2 (hz k2)
  rw [if_neg k2] at ho
  by_cases k3 : n.kind = 3
  · exact leaf_3 n s w k3
  rw [if_neg k3] at ho
  by_cases k4 : n.kind = 4
  · rw [if_pos k4] at ho; exact leaf_4 n s w k4 (of_decide_eq_true ho)
  rw [if_neg k4] at ho
  by_cases k5 : n.kind = 5
  · rw [if_pos k5] at ho; exact leaf_5 n s w hl k5 ho
  rw [if_neg k5] at ho
  by_cases k6 : n.kind = 6
  · rw [if_pos k6, Bool.and_eq_true] at ho; exact leaf_6 n s w hl k6 ho.1 ho.2
  rw [if_neg k6, if_neg h7, if_neg h8, if_neg h9] at ho
  cases ho
end Go.Proofs.YtnfoknifofglbaaDoor.T9
