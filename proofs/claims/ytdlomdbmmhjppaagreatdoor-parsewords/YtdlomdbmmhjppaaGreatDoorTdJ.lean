/- tree.isAsTold of kinds 3 and 4. tree.isAsTold of kind 9. -/
import Derived.Test.YtdlomdbmmhjppaaGreatDoorLsJ
namespace Go.Proofs.YtdlomdbmmhjppaaGreatDoor.T9
open Go.RowKit Go.Sort
set_option linter.unusedVariables false

set_option maxHeartbeats 4000000 in
set_option maxRecDepth 100000 in
theorem told_3 (n : Nd) (a : Option Addr) (len cap : Nat) (w : World) (hk : n.kind = 3)  : Calls Tryz.prog 33 #[exV n (.slice a len cap)] w fun e w' => e = .returned (.bool (toldB n len)) ∧ Below w.heap.size w w' := by
  obtain ⟨kind, op, num, text, ref, to, fn⟩ := n
  simp only at hk 
  subst hk
  have HF : Hid (∀ w, Calls Tryz.prog 48 #[.agg #[.int .i64 0, .int .i64 op, .int .i64 0, .string text, .int .i64 ref.row, .int .i64 ref.col, .bool ref.pr, .bool ref.pc, .int .i64 to.row, .int .i64 to.col, .bool to.pr, .bool to.pc, .int .i64 fn, .slice a len cap], .agg #[.int .i64 0, .int .i64 0, .int .i64 0, .string { data := #[] }, .int .i64 0, .int .i64 0, .bool false, .bool false, .int .i64 0, .int .i64 0, .bool false, .bool false, .int .i64 0, .slice none 0 0]] w fun e w' => e = .returned (.bool (ndB { kind := 0, op := op, num := 0, text := text, ref := ref, to := to, fn := fn } ⟨0, 0, 0, no, ⟨0, 0, false, false⟩, ⟨0, 0, false, false⟩, 0⟩)) ∧ Below w.heap.size w w') := hide (fields_any { kind := 0, op := op, num := 0, text := text, ref := ref, to := to, fn := fn } ⟨0, 0, 0, no, ⟨0, 0, false, false⟩, ⟨0, 0, false, false⟩, 0⟩ (.slice a len cap) (.slice none 0 0))
  obtain ⟨a0, a1, a2, a3, a4, a5, a6, a7, a8, a9, a10, a11, a12, a13⟩ := at14 ⟨3, op, num, text, ref, to, fn⟩ (.slice a len cap)
  have hT : toldB ⟨3, op, num, text, ref, to, fn⟩ len = (decide (num = 0 ∨ num = 1) && decide (len = 0) && ndB { kind := 0, op := op, num := 0, text := text, ref := ref, to := to, fn := fn } ⟨0, 0, 0, no, ⟨0, 0, false, false⟩, ⟨0, 0, false, false⟩, 0⟩) := rfl
  rw [hT]
  clear hT
  generalize ndB _ _ = B at *
  by_cases hl0 : len = 0
  · subst hl0
    go_enter Tryz.func33, Tryz.ntmps33
    go_wp2_with fail
    go_region
    go_wp2_with (first
      | (go_at_call 48; with_reducible refine (HF.out _).mono ?_; rintro e w9 ⟨rfl, hb9⟩; replace hb9 := hide hb9))
    all_goals go_ret
    all_goals refine ⟨ret_bool ?_, by first | exact next (by go_grown) hb9.out | go_grown⟩
    all_goals first
      | rfl
      | (simp; done)
      | (simp [*]; done)
      | (simp; omega)
      | (simp [*]; omega)
  · have el : ((len : Int) == 0) = false := by simp; omega
    have el' : decide (len = 0) = false := decide_eq_false hl0
    rw [el']
    replace hl0 := hide hl0
    go_enter Tryz.func33, Tryz.ntmps33
    go_wp2_with fail
    go_region
    go_wp2_with (first
      | (go_at_call 48; with_reducible refine (HF.out _).mono ?_; rintro e w9 ⟨rfl, hb9⟩; replace hb9 := hide hb9))
    all_goals go_ret
    all_goals refine ⟨ret_bool ?_, by first | exact next (by go_grown) hb9.out | go_grown⟩
    all_goals first
      | rfl
      | (simp; done)
      | (simp [*]; done)
      | (simp; omega)
      | (simp [*]; omega)
set_option maxHeartbeats 4000000 in
set_option maxRecDepth 100000 in
theorem told_4 (n : Nd) (a : Option Addr) (len cap : Nat) (w : World) (hk : n.kind = 4)  : Calls Tryz.prog 33 #[exV n (.slice a len cap)] w fun e w' => e = .returned (.bool (toldB n len)) ∧ Below w.heap.size w w' := by
  obtain ⟨kind, op, num, text, ref, to, fn⟩ := n
  simp only at hk 
  subst hk
  have HF : Hid (∀ w, Calls Tryz.prog 48 #[.agg #[.int .i64 0, .int .i64 op, .int .i64 0, .string text, .int .i64 ref.row, .int .i64 ref.col, .bool ref.pr, .bool ref.pc, .int .i64 to.row, .int .i64 to.col, .bool to.pr, .bool to.pc, .int .i64 fn, .slice a len cap], .agg #[.int .i64 0, .int .i64 0, .int .i64 0, .string { data := #[] }, .int .i64 0, .int .i64 0, .bool false, .bool false, .int .i64 0, .int .i64 0, .bool false, .bool false, .int .i64 0, .slice none 0 0]] w fun e w' => e = .returned (.bool (ndB { kind := 0, op := op, num := 0, text := text, ref := ref, to := to, fn := fn } ⟨0, 0, 0, no, ⟨0, 0, false, false⟩, ⟨0, 0, false, false⟩, 0⟩)) ∧ Below w.heap.size w w') := hide (fields_any { kind := 0, op := op, num := 0, text := text, ref := ref, to := to, fn := fn } ⟨0, 0, 0, no, ⟨0, 0, false, false⟩, ⟨0, 0, false, false⟩, 0⟩ (.slice a len cap) (.slice none 0 0))
  obtain ⟨a0, a1, a2, a3, a4, a5, a6, a7, a8, a9, a10, a11, a12, a13⟩ := at14 ⟨4, op, num, text, ref, to, fn⟩ (.slice a len cap)
  have hT : toldB ⟨4, op, num, text, ref, to, fn⟩ len = (decide (1 ≤ num ∧ num ≤ 6) && decide (len = 0) && ndB { kind := 0, op := op, num := 0, text := text, ref := ref, to := to, fn := fn } ⟨0, 0, 0, no, ⟨0, 0, false, false⟩, ⟨0, 0, false, false⟩, 0⟩) := rfl
  rw [hT]
  clear hT
  generalize ndB _ _ = B at *
  by_cases hl0 : len = 0
  · subst hl0
    go_enter Tryz.func33, Tryz.ntmps33
    go_wp2_with fail
    go_region
    go_wp2_with (first
      | (go_at_call 48; with_reducible refine (HF.out _).mono ?_; rintro e w9 ⟨rfl, hb9⟩; replace hb9 := hide hb9))
    all_goals go_ret
    all_goals refine ⟨ret_bool ?_, by first | exact next (by go_grown) hb9.out | go_grown⟩
    all_goals first
      | rfl
      | (simp; done)
      | (simp [*]; done)
      | (simp; omega)
      | (simp [*]; omega)
  · have el : ((len : Int) == 0) = false := by simp; omega
    have el' : decide (len = 0) = false := decide_eq_false hl0
    rw [el']
    replace hl0 := hide hl0
    go_enter Tryz.func33, Tryz.ntmps33
    go_wp2_with fail
    go_region
    go_wp2_with (first
      | (go_at_call 48; with_reducible refine (HF.out _).mono ?_; rintro e w9 ⟨rfl, hb9⟩; replace hb9 := hide hb9))
    all_goals go_ret
    all_goals refine ⟨ret_bool ?_, by first | exact next (by go_grown) hb9.out | go_grown⟩
    all_goals first
      | rfl
      | (simp; done)
      | (simp [*]; done)
      | (simp; omega)
      | (simp [*]; omega)
end Go.Proofs.YtdlomdbmmhjppaaGreatDoor.T9
namespace Go.Proofs.YtdlomdbmmhjppaaGreatDoor.T9
open Go.RowKit Go.Sort
set_option linter.unusedVariables false

set_option maxHeartbeats 4000000 in
set_option maxRecDepth 100000 in
theorem told_9t (n : Nd) (a : Option Addr) (len cap : Nat) (w : World) (hk : n.kind = 9) (q : takesB n.fn len = true) : Calls Tryz.prog 33 #[exV n (.slice a len cap)] w fun e w' => e = .returned (.bool (toldB n len)) ∧ Below w.heap.size w w' := by
  obtain ⟨kind, op, num, text, ref, to, fn⟩ := n
  simp only at hk q
  subst hk
  have HF : Hid (∀ w, Calls Tryz.prog 48 #[.agg #[.int .i64 0, .int .i64 op, .int .i64 num, .string text, .int .i64 ref.row, .int .i64 ref.col, .bool ref.pr, .bool ref.pc, .int .i64 to.row, .int .i64 to.col, .bool to.pr, .bool to.pc, .int .i64 0, .slice none 0 0], .agg #[.int .i64 0, .int .i64 0, .int .i64 0, .string { data := #[] }, .int .i64 0, .int .i64 0, .bool false, .bool false, .int .i64 0, .int .i64 0, .bool false, .bool false, .int .i64 0, .slice none 0 0]] w fun e w' => e = .returned (.bool (ndB { kind := 0, op := op, num := num, text := text, ref := ref, to := to, fn := 0 } ⟨0, 0, 0, no, ⟨0, 0, false, false⟩, ⟨0, 0, false, false⟩, 0⟩)) ∧ Below w.heap.size w w') := hide (fields_any { kind := 0, op := op, num := num, text := text, ref := ref, to := to, fn := 0 } ⟨0, 0, 0, no, ⟨0, 0, false, false⟩, ⟨0, 0, false, false⟩, 0⟩ (.slice none 0 0) (.slice none 0 0))
  obtain ⟨a0, a1, a2, a3, a4, a5, a6, a7, a8, a9, a10, a11, a12, a13⟩ := at14 ⟨9, op, num, text, ref, to, fn⟩ (.slice a len cap)
  have hT : toldB ⟨9, op, num, text, ref, to, fn⟩ len = (takesB fn len && decide (0 = 0) && ndB { kind := 0, op := op, num := num, text := text, ref := ref, to := to, fn := 0 } ⟨0, 0, 0, no, ⟨0, 0, false, false⟩, ⟨0, 0, false, false⟩, 0⟩) := rfl
  rw [hT]
  clear hT
  generalize ndB _ _ = B at *
  have H1 := hide (takes_any fn len)
  rw [q] at H1 ⊢
  have P0 : Blk (((w.alloc (exO ⟨9, op, num, text, ref, to, fn⟩ (.slice a len cap))).alloc (.cells #[.int .i64 0, .int .i64 op, .int .i64 num, .string text, .int .i64 ref.row, .int .i64 ref.col, .bool ref.pr, .bool ref.pc, .int .i64 to.row, .int .i64 to.col, .bool to.pr, .bool to.pc, .int .i64 fn, .slice a len cap] 30)).drew) w.heap.size (exC ⟨9, op, num, text, ref, to, fn⟩ (.slice a len cap)) 30 := (Blk.new w (exC ⟨9, op, num, text, ref, to, fn⟩ (.slice a len cap)) 30).alloc (.cells #[.int .i64 0, .int .i64 op, .int .i64 num, .string text, .int .i64 ref.row, .int .i64 ref.col, .bool ref.pr, .bool ref.pc, .int .i64 to.row, .int .i64 to.col, .bool to.pr, .bool to.pc, .int .i64 fn, .slice a len cap] 30)
  have P1 : Blk (((w.alloc (exO ⟨9, op, num, text, ref, to, fn⟩ (.slice a len cap))).alloc (.cells #[.int .i64 0, .int .i64 op, .int .i64 num, .string text, .int .i64 ref.row, .int .i64 ref.col, .bool ref.pr, .bool ref.pc, .int .i64 to.row, .int .i64 to.col, .bool to.pr, .bool to.pc, .int .i64 fn, .slice a len cap] 30)).drew) (w.heap.size + 1) (exC ⟨0, op, num, text, ref, to, fn⟩ (.slice a len cap)) 30 := Blk.new1 w (exO ⟨9, op, num, text, ref, to, fn⟩ (.slice a len cap)) (exC ⟨0, op, num, text, ref, to, fn⟩ (.slice a len cap)) 30
  have BW : Below w.heap.size w (((w.alloc (exO ⟨9, op, num, text, ref, to, fn⟩ (.slice a len cap))).alloc (.cells #[.int .i64 0, .int .i64 op, .int .i64 num, .string text, .int .i64 ref.row, .int .i64 ref.col, .bool ref.pr, .bool ref.pc, .int .i64 to.row, .int .i64 to.col, .bool to.pr, .bool to.pc, .int .i64 fn, .slice a len cap] 30)).drew) := (step (step (Below.refl _ w) _) _).drew
  replace P0 := hide P0
  replace P1 := hide P1
  replace BW := hide BW
  go_enter Tryz.func33, Tryz.ntmps33
  go_wp2_with fail
  go_region
  go_wp2_with (first
    | (go_at_call 58; refine (H1.out _).mono ?_; rintro e w1 ⟨rfl, hb1⟩; have Q0 := hide (P0.out.keep hb1); have Q1 := hide (P1.out.keep hb1); replace hb1 := hide (next BW.out hb1); obtain ⟨z11_0, z11_1, z11_2, z11_3, z11_4, z11_5, z11_6, z11_7, z11_8, z11_9, z11_10, z11_11, z11_12, z11_13⟩ := (Q1.out).c14; have z11_f := (Q1.out).fr; have z11_l := (Q1.out).lt)
    | (go_at_call 48; with_reducible refine (HF.out _).mono ?_; rintro e w9 ⟨rfl, hb9⟩; replace hb9 := hide hb9))
  all_goals go_ret
  all_goals refine ⟨ret_bool ?_, by first | exact next (below_st2 hb1.out) hb9.out | exact below_st2 hb1.out⟩
  all_goals first
    | rfl
    | (simp; done)
    | (simp [*]; done)
set_option maxHeartbeats 4000000 in
set_option maxRecDepth 100000 in
theorem told_9f (n : Nd) (a : Option Addr) (len cap : Nat) (w : World) (hk : n.kind = 9) (q : takesB n.fn len = false) : Calls Tryz.prog 33 #[exV n (.slice a len cap)] w fun e w' => e = .returned (.bool (toldB n len)) ∧ Below w.heap.size w w' := by
  obtain ⟨kind, op, num, text, ref, to, fn⟩ := n
  simp only at hk q
  subst hk
  have HF : Hid (∀ w, Calls Tryz.prog 48 #[.agg #[.int .i64 0, .int .i64 op, .int .i64 num, .string text, .int .i64 ref.row, .int .i64 ref.col, .bool ref.pr, .bool ref.pc, .int .i64 to.row, .int .i64 to.col, .bool to.pr, .bool to.pc, .int .i64 0, .slice none 0 0], .agg #[.int .i64 0, .int .i64 0, .int .i64 0, .string { data := #[] }, .int .i64 0, .int .i64 0, .bool false, .bool false, .int .i64 0, .int .i64 0, .bool false, .bool false, .int .i64 0, .slice none 0 0]] w fun e w' => e = .returned (.bool (ndB { kind := 0, op := op, num := num, text := text, ref := ref, to := to, fn := 0 } ⟨0, 0, 0, no, ⟨0, 0, false, false⟩, ⟨0, 0, false, false⟩, 0⟩)) ∧ Below w.heap.size w w') := hide (fields_any { kind := 0, op := op, num := num, text := text, ref := ref, to := to, fn := 0 } ⟨0, 0, 0, no, ⟨0, 0, false, false⟩, ⟨0, 0, false, false⟩, 0⟩ (.slice none 0 0) (.slice none 0 0))
  obtain ⟨a0, a1, a2, a3, a4, a5, a6, a7, a8, a9, a10, a11, a12, a13⟩ := at14 ⟨9, op, num, text, ref, to, fn⟩ (.slice a len cap)
  have hT : toldB ⟨9, op, num, text, ref, to, fn⟩ len = (takesB fn len && decide (0 = 0) && ndB { kind := 0, op := op, num := num, text := text, ref := ref, to := to, fn := 0 } ⟨0, 0, 0, no, ⟨0, 0, false, false⟩, ⟨0, 0, false, false⟩, 0⟩) := rfl
  rw [hT]
  clear hT
  generalize ndB _ _ = B at *
  have H1 := hide (takes_any fn len)
  rw [q] at H1 ⊢
  have P0 : Blk (((w.alloc (exO ⟨9, op, num, text, ref, to, fn⟩ (.slice a len cap))).alloc (.cells #[.int .i64 0, .int .i64 op, .int .i64 num, .string text, .int .i64 ref.row, .int .i64 ref.col, .bool ref.pr, .bool ref.pc, .int .i64 to.row, .int .i64 to.col, .bool to.pr, .bool to.pc, .int .i64 fn, .slice a len cap] 30)).drew) w.heap.size (exC ⟨9, op, num, text, ref, to, fn⟩ (.slice a len cap)) 30 := (Blk.new w (exC ⟨9, op, num, text, ref, to, fn⟩ (.slice a len cap)) 30).alloc (.cells #[.int .i64 0, .int .i64 op, .int .i64 num, .string text, .int .i64 ref.row, .int .i64 ref.col, .bool ref.pr, .bool ref.pc, .int .i64 to.row, .int .i64 to.col, .bool to.pr, .bool to.pc, .int .i64 fn, .slice a len cap] 30)
  have P1 : Blk (((w.alloc (exO ⟨9, op, num, text, ref, to, fn⟩ (.slice a len cap))).alloc (.cells #[.int .i64 0, .int .i64 op, .int .i64 num, .string text, .int .i64 ref.row, .int .i64 ref.col, .bool ref.pr, .bool ref.pc, .int .i64 to.row, .int .i64 to.col, .bool to.pr, .bool to.pc, .int .i64 fn, .slice a len cap] 30)).drew) (w.heap.size + 1) (exC ⟨0, op, num, text, ref, to, fn⟩ (.slice a len cap)) 30 := Blk.new1 w (exO ⟨9, op, num, text, ref, to, fn⟩ (.slice a len cap)) (exC ⟨0, op, num, text, ref, to, fn⟩ (.slice a len cap)) 30
  have BW : Below w.heap.size w (((w.alloc (exO ⟨9, op, num, text, ref, to, fn⟩ (.slice a len cap))).alloc (.cells #[.int .i64 0, .int .i64 op, .int .i64 num, .string text, .int .i64 ref.row, .int .i64 ref.col, .bool ref.pr, .bool ref.pc, .int .i64 to.row, .int .i64 to.col, .bool to.pr, .bool to.pc, .int .i64 fn, .slice a len cap] 30)).drew) := (step (step (Below.refl _ w) _) _).drew
  replace P0 := hide P0
  replace P1 := hide P1
  replace BW := hide BW
  go_enter Tryz.func33, Tryz.ntmps33
  go_wp2_with fail
  go_region
  go_wp2_with (first
    | (go_at_call 58; refine (H1.out _).mono ?_; rintro e w1 ⟨rfl, hb1⟩; have Q0 := hide (P0.out.keep hb1); have Q1 := hide (P1.out.keep hb1); replace hb1 := hide (next BW.out hb1); obtain ⟨z11_0, z11_1, z11_2, z11_3, z11_4, z11_5, z11_6, z11_7, z11_8, z11_9, z11_10, z11_11, z11_12, z11_13⟩ := (Q1.out).c14; have z11_f := (Q1.out).fr; have z11_l := (Q1.out).lt)
    | (go_at_call 48; with_reducible refine (HF.out _).mono ?_; rintro e w9 ⟨rfl, hb9⟩; replace hb9 := hide hb9))
  all_goals go_ret
  all_goals refine ⟨ret_bool ?_, by first | exact next (below_st2 hb1.out) hb9.out | exact below_st2 hb1.out⟩
  all_goals first
    | rfl
    | (simp; done)
    | (simp [*]; done)
end Go.Proofs.YtdlomdbmmhjppaaGreatDoor.T9
