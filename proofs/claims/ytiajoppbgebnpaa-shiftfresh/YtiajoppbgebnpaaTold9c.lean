/- tree.isAsTold of kind 6. -/
import Derived.Test.YtiajoppbgebnpaaTold9
namespace Go.Proofs.Ytiajoppbgebnpaa
open Go.RowKit Go.Sort
set_option linter.unusedVariables false

set_option maxHeartbeats 4000000 in
set_option maxRecDepth 100000 in
theorem told_6tt (n : Nd) (a : Option Addr) (len cap : Nat) (w : World) (hk : n.kind = 6) (q : mayB n.ref.row n.ref.col = true ∧ mayB n.to.row n.to.col = true) : Calls Try.prog 39 #[exV n (.slice a len cap)] w fun e w' => e = .returned (.bool (toldB n len)) ∧ Below w.heap.size w w' := by
  obtain ⟨kind, op, num, text, ref, to, fn⟩ := n
  simp only at hk q
  subst hk
  have HF : Hid (∀ w, Calls Try.prog 51 #[.agg #[.int .i64 0, .int .i64 op, .int .i64 num, .string text, .int .i64 0, .int .i64 0, .bool false, .bool false, .int .i64 0, .int .i64 0, .bool false, .bool false, .int .i64 fn, .slice a len cap], .agg #[.int .i64 0, .int .i64 0, .int .i64 0, .string { data := #[] }, .int .i64 0, .int .i64 0, .bool false, .bool false, .int .i64 0, .int .i64 0, .bool false, .bool false, .int .i64 0, .slice none 0 0]] w fun e w' => e = .returned (.bool (ndB { kind := 0, op := op, num := num, text := text, ref := ⟨0, 0, false, false⟩, to := ⟨0, 0, false, false⟩, fn := fn } ⟨0, 0, 0, no, ⟨0, 0, false, false⟩, ⟨0, 0, false, false⟩, 0⟩)) ∧ Below w.heap.size w w') := hide (fields_any { kind := 0, op := op, num := num, text := text, ref := ⟨0, 0, false, false⟩, to := ⟨0, 0, false, false⟩, fn := fn } ⟨0, 0, 0, no, ⟨0, 0, false, false⟩, ⟨0, 0, false, false⟩, 0⟩ (.slice a len cap) (.slice none 0 0))
  obtain ⟨a0, a1, a2, a3, a4, a5, a6, a7, a8, a9, a10, a11, a12, a13⟩ := at14 ⟨6, op, num, text, ref, to, fn⟩ (.slice a len cap)
  have hT : toldB ⟨6, op, num, text, ref, to, fn⟩ len = ((mayB ref.row ref.col && mayB to.row to.col) && decide (len = 0) && ndB { kind := 0, op := op, num := num, text := text, ref := ⟨0, 0, false, false⟩, to := ⟨0, 0, false, false⟩, fn := fn } ⟨0, 0, 0, no, ⟨0, 0, false, false⟩, ⟨0, 0, false, false⟩, 0⟩) := rfl
  rw [hT]
  clear hT
  generalize ndB _ _ = B at *
  by_cases hl0 : len = 0
  · subst hl0
    have H1 := hide (spotMay_any ref.row ref.col)
    obtain ⟨q, q'⟩ := q
    have H2 := hide (spotMay_any to.row to.col)
    rw [q'] at H2 ⊢
    rw [q] at H1 ⊢
    have P0 : Blk (((w.alloc (exO ⟨6, op, num, text, ref, to, fn⟩ (.slice a 0 cap))).alloc (.cells #[.int .i64 0, .int .i64 op, .int .i64 num, .string text, .int .i64 ref.row, .int .i64 ref.col, .bool ref.pr, .bool ref.pc, .int .i64 to.row, .int .i64 to.col, .bool to.pr, .bool to.pc, .int .i64 fn, .slice a 0 cap] 37)).drew) w.heap.size (exC ⟨6, op, num, text, ref, to, fn⟩ (.slice a 0 cap)) 37 := (Blk.new w (exC ⟨6, op, num, text, ref, to, fn⟩ (.slice a 0 cap)) 37).alloc (.cells #[.int .i64 0, .int .i64 op, .int .i64 num, .string text, .int .i64 ref.row, .int .i64 ref.col, .bool ref.pr, .bool ref.pc, .int .i64 to.row, .int .i64 to.col, .bool to.pr, .bool to.pc, .int .i64 fn, .slice a 0 cap] 37)
    have P1 : Blk (((w.alloc (exO ⟨6, op, num, text, ref, to, fn⟩ (.slice a 0 cap))).alloc (.cells #[.int .i64 0, .int .i64 op, .int .i64 num, .string text, .int .i64 ref.row, .int .i64 ref.col, .bool ref.pr, .bool ref.pc, .int .i64 to.row, .int .i64 to.col, .bool to.pr, .bool to.pc, .int .i64 fn, .slice a 0 cap] 37)).drew) (w.heap.size + 1) (exC ⟨0, op, num, text, ref, to, fn⟩ (.slice a 0 cap)) 37 := Blk.new1 w (exO ⟨6, op, num, text, ref, to, fn⟩ (.slice a 0 cap)) (exC ⟨0, op, num, text, ref, to, fn⟩ (.slice a 0 cap)) 37
    have BW : Below w.heap.size w (((w.alloc (exO ⟨6, op, num, text, ref, to, fn⟩ (.slice a 0 cap))).alloc (.cells #[.int .i64 0, .int .i64 op, .int .i64 num, .string text, .int .i64 ref.row, .int .i64 ref.col, .bool ref.pr, .bool ref.pc, .int .i64 to.row, .int .i64 to.col, .bool to.pr, .bool to.pc, .int .i64 fn, .slice a 0 cap] 37)).drew) := (step (step (Below.refl _ w) _) _).drew
    replace P0 := hide P0
    replace P1 := hide P1
    replace BW := hide BW
    go_enter Try.func39, Try.ntmps39
    go_wp2_with fail
    go_region
    go_wp2_with (first
      | (have hq := hb3; go_at_call 42; refine (H2.out _).mono ?_; rintro e w4 ⟨rfl, hb4⟩; have T0 := hide (S0.out.keep hb4); have T1 := hide (S1.out.keep hb4); replace hb4 := hide (next hb3.out hb4); obtain ⟨z41_0, z41_1, z41_2, z41_3, z41_4, z41_5, z41_6, z41_7, z41_8, z41_9, z41_10, z41_11, z41_12, z41_13⟩ := (T1.out).c14; have z41_f := (T1.out).fr; have z41_l := (T1.out).lt)
      | (have hq := hb2; have hw := hb2; go_at_call 49; refine (placeOf_any to.row to.col to.pr to.pc _).mono ?_; rintro e w3 ⟨rfl, hb3⟩; have S0 := hide (R0.out.keep hb3); have S1 := hide (R1.out.keep hb3); replace hb3 := hide (next hb2.out hb3))
      | (have hq := hb1; go_at_call 42; refine (H1.out _).mono ?_; rintro e w2 ⟨rfl, hb2⟩; have R0 := hide (Q0.out.keep hb2); have R1 := hide (Q1.out.keep hb2); replace hb2 := hide (next hb1.out hb2); obtain ⟨z20_0, z20_1, z20_2, z20_3, z20_4, z20_5, z20_6, z20_7, z20_8, z20_9, z20_10, z20_11, z20_12, z20_13⟩ := (R0.out).c14; have z20_f := (R0.out).fr; have z20_l := (R0.out).lt; obtain ⟨z21_0, z21_1, z21_2, z21_3, z21_4, z21_5, z21_6, z21_7, z21_8, z21_9, z21_10, z21_11, z21_12, z21_13⟩ := (R1.out).c14; have z21_f := (R1.out).fr; have z21_l := (R1.out).lt)
      | (have hq := BW; skip; go_at_call 49; refine (placeOf_any ref.row ref.col ref.pr ref.pc _).mono ?_; rintro e w1 ⟨rfl, hb1⟩; have Q0 := hide (P0.out.keep hb1); have Q1 := hide (P1.out.keep hb1); replace hb1 := hide (next BW.out hb1))
      | (go_at_call 51; with_reducible refine (HF.out _).mono ?_; rintro e w9 ⟨rfl, hb9⟩; replace hb9 := hide hb9))
    all_goals go_ret
    all_goals refine ⟨ret_bool ?_, by first | exact next (below_st8 hb4.out) hb9.out | exact below_st8 hb4.out⟩
    all_goals first
      | rfl
      | (simp; done)
      | (simp [*]; done)
  · have el : ((len : Int) == 0) = false := by simp; omega
    have el' : decide (len = 0) = false := decide_eq_false hl0
    rw [el']
    replace hl0 := hide hl0
    have H1 := hide (spotMay_any ref.row ref.col)
    obtain ⟨q, q'⟩ := q
    have H2 := hide (spotMay_any to.row to.col)
    rw [q'] at H2 ⊢
    rw [q] at H1 ⊢
    have P0 : Blk (((w.alloc (exO ⟨6, op, num, text, ref, to, fn⟩ (.slice a len cap))).alloc (.cells #[.int .i64 0, .int .i64 op, .int .i64 num, .string text, .int .i64 ref.row, .int .i64 ref.col, .bool ref.pr, .bool ref.pc, .int .i64 to.row, .int .i64 to.col, .bool to.pr, .bool to.pc, .int .i64 fn, .slice a len cap] 37)).drew) w.heap.size (exC ⟨6, op, num, text, ref, to, fn⟩ (.slice a len cap)) 37 := (Blk.new w (exC ⟨6, op, num, text, ref, to, fn⟩ (.slice a len cap)) 37).alloc (.cells #[.int .i64 0, .int .i64 op, .int .i64 num, .string text, .int .i64 ref.row, .int .i64 ref.col, .bool ref.pr, .bool ref.pc, .int .i64 to.row, .int .i64 to.col, .bool to.pr, .bool to.pc, .int .i64 fn, .slice a len cap] 37)
    have P1 : Blk (((w.alloc (exO ⟨6, op, num, text, ref, to, fn⟩ (.slice a len cap))).alloc (.cells #[.int .i64 0, .int .i64 op, .int .i64 num, .string text, .int .i64 ref.row, .int .i64 ref.col, .bool ref.pr, .bool ref.pc, .int .i64 to.row, .int .i64 to.col, .bool to.pr, .bool to.pc, .int .i64 fn, .slice a len cap] 37)).drew) (w.heap.size + 1) (exC ⟨0, op, num, text, ref, to, fn⟩ (.slice a len cap)) 37 := Blk.new1 w (exO ⟨6, op, num, text, ref, to, fn⟩ (.slice a len cap)) (exC ⟨0, op, num, text, ref, to, fn⟩ (.slice a len cap)) 37
    have BW : Below w.heap.size w (((w.alloc (exO ⟨6, op, num, text, ref, to, fn⟩ (.slice a len cap))).alloc (.cells #[.int .i64 0, .int .i64 op, .int .i64 num, .string text, .int .i64 ref.row, .int .i64 ref.col, .bool ref.pr, .bool ref.pc, .int .i64 to.row, .int .i64 to.col, .bool to.pr, .bool to.pc, .int .i64 fn, .slice a len cap] 37)).drew) := (step (step (Below.refl _ w) _) _).drew
    replace P0 := hide P0
    replace P1 := hide P1
    replace BW := hide BW
    go_enter Try.func39, Try.ntmps39
    go_wp2_with fail
    go_region
    go_wp2_with (first
      | (have hq := hb3; go_at_call 42; refine (H2.out _).mono ?_; rintro e w4 ⟨rfl, hb4⟩; have T0 := hide (S0.out.keep hb4); have T1 := hide (S1.out.keep hb4); replace hb4 := hide (next hb3.out hb4); obtain ⟨z41_0, z41_1, z41_2, z41_3, z41_4, z41_5, z41_6, z41_7, z41_8, z41_9, z41_10, z41_11, z41_12, z41_13⟩ := (T1.out).c14; have z41_f := (T1.out).fr; have z41_l := (T1.out).lt)
      | (have hq := hb2; have hw := hb2; go_at_call 49; refine (placeOf_any to.row to.col to.pr to.pc _).mono ?_; rintro e w3 ⟨rfl, hb3⟩; have S0 := hide (R0.out.keep hb3); have S1 := hide (R1.out.keep hb3); replace hb3 := hide (next hb2.out hb3))
      | (have hq := hb1; go_at_call 42; refine (H1.out _).mono ?_; rintro e w2 ⟨rfl, hb2⟩; have R0 := hide (Q0.out.keep hb2); have R1 := hide (Q1.out.keep hb2); replace hb2 := hide (next hb1.out hb2); obtain ⟨z20_0, z20_1, z20_2, z20_3, z20_4, z20_5, z20_6, z20_7, z20_8, z20_9, z20_10, z20_11, z20_12, z20_13⟩ := (R0.out).c14; have z20_f := (R0.out).fr; have z20_l := (R0.out).lt; obtain ⟨z21_0, z21_1, z21_2, z21_3, z21_4, z21_5, z21_6, z21_7, z21_8, z21_9, z21_10, z21_11, z21_12, z21_13⟩ := (R1.out).c14; have z21_f := (R1.out).fr; have z21_l := (R1.out).lt)
      | (have hq := BW; skip; go_at_call 49; refine (placeOf_any ref.row ref.col ref.pr ref.pc _).mono ?_; rintro e w1 ⟨rfl, hb1⟩; have Q0 := hide (P0.out.keep hb1); have Q1 := hide (P1.out.keep hb1); replace hb1 := hide (next BW.out hb1))
      | (go_at_call 51; with_reducible refine (HF.out _).mono ?_; rintro e w9 ⟨rfl, hb9⟩; replace hb9 := hide hb9))
    all_goals go_ret
    all_goals refine ⟨ret_bool ?_, by first | exact next (below_st8 hb4.out) hb9.out | exact below_st8 hb4.out⟩
    all_goals first
      | rfl
      | (simp; done)
      | (simp [*]; done)
set_option maxHeartbeats 4000000 in
set_option maxRecDepth 100000 in
theorem told_6tf (n : Nd) (a : Option Addr) (len cap : Nat) (w : World) (hk : n.kind = 6) (q : mayB n.ref.row n.ref.col = true ∧ mayB n.to.row n.to.col = false) : Calls Try.prog 39 #[exV n (.slice a len cap)] w fun e w' => e = .returned (.bool (toldB n len)) ∧ Below w.heap.size w w' := by
  obtain ⟨kind, op, num, text, ref, to, fn⟩ := n
  simp only at hk q
  subst hk
  have HF : Hid (∀ w, Calls Try.prog 51 #[.agg #[.int .i64 0, .int .i64 op, .int .i64 num, .string text, .int .i64 0, .int .i64 0, .bool false, .bool false, .int .i64 0, .int .i64 0, .bool false, .bool false, .int .i64 fn, .slice a len cap], .agg #[.int .i64 0, .int .i64 0, .int .i64 0, .string { data := #[] }, .int .i64 0, .int .i64 0, .bool false, .bool false, .int .i64 0, .int .i64 0, .bool false, .bool false, .int .i64 0, .slice none 0 0]] w fun e w' => e = .returned (.bool (ndB { kind := 0, op := op, num := num, text := text, ref := ⟨0, 0, false, false⟩, to := ⟨0, 0, false, false⟩, fn := fn } ⟨0, 0, 0, no, ⟨0, 0, false, false⟩, ⟨0, 0, false, false⟩, 0⟩)) ∧ Below w.heap.size w w') := hide (fields_any { kind := 0, op := op, num := num, text := text, ref := ⟨0, 0, false, false⟩, to := ⟨0, 0, false, false⟩, fn := fn } ⟨0, 0, 0, no, ⟨0, 0, false, false⟩, ⟨0, 0, false, false⟩, 0⟩ (.slice a len cap) (.slice none 0 0))
  obtain ⟨a0, a1, a2, a3, a4, a5, a6, a7, a8, a9, a10, a11, a12, a13⟩ := at14 ⟨6, op, num, text, ref, to, fn⟩ (.slice a len cap)
  have hT : toldB ⟨6, op, num, text, ref, to, fn⟩ len = ((mayB ref.row ref.col && mayB to.row to.col) && decide (len = 0) && ndB { kind := 0, op := op, num := num, text := text, ref := ⟨0, 0, false, false⟩, to := ⟨0, 0, false, false⟩, fn := fn } ⟨0, 0, 0, no, ⟨0, 0, false, false⟩, ⟨0, 0, false, false⟩, 0⟩) := rfl
  rw [hT]
  clear hT
  generalize ndB _ _ = B at *
  by_cases hl0 : len = 0
  · subst hl0
    have H1 := hide (spotMay_any ref.row ref.col)
    obtain ⟨q, q'⟩ := q
    have H2 := hide (spotMay_any to.row to.col)
    rw [q'] at H2 ⊢
    rw [q] at H1 ⊢
    have P0 : Blk (((w.alloc (exO ⟨6, op, num, text, ref, to, fn⟩ (.slice a 0 cap))).alloc (.cells #[.int .i64 0, .int .i64 op, .int .i64 num, .string text, .int .i64 ref.row, .int .i64 ref.col, .bool ref.pr, .bool ref.pc, .int .i64 to.row, .int .i64 to.col, .bool to.pr, .bool to.pc, .int .i64 fn, .slice a 0 cap] 37)).drew) w.heap.size (exC ⟨6, op, num, text, ref, to, fn⟩ (.slice a 0 cap)) 37 := (Blk.new w (exC ⟨6, op, num, text, ref, to, fn⟩ (.slice a 0 cap)) 37).alloc (.cells #[.int .i64 0, .int .i64 op, .int .i64 num, .string text, .int .i64 ref.row, .int .i64 ref.col, .bool ref.pr, .bool ref.pc, .int .i64 to.row, .int .i64 to.col, .bool to.pr, .bool to.pc, .int .i64 fn, .slice a 0 cap] 37)
    have P1 : Blk (((w.alloc (exO ⟨6, op, num, text, ref, to, fn⟩ (.slice a 0 cap))).alloc (.cells #[.int .i64 0, .int .i64 op, .int .i64 num, .string text, .int .i64 ref.row, .int .i64 ref.col, .bool ref.pr, .bool ref.pc, .int .i64 to.row, .int .i64 to.col, .bool to.pr, .bool to.pc, .int .i64 fn, .slice a 0 cap] 37)).drew) (w.heap.size + 1) (exC ⟨0, op, num, text, ref, to, fn⟩ (.slice a 0 cap)) 37 := Blk.new1 w (exO ⟨6, op, num, text, ref, to, fn⟩ (.slice a 0 cap)) (exC ⟨0, op, num, text, ref, to, fn⟩ (.slice a 0 cap)) 37
    have BW : Below w.heap.size w (((w.alloc (exO ⟨6, op, num, text, ref, to, fn⟩ (.slice a 0 cap))).alloc (.cells #[.int .i64 0, .int .i64 op, .int .i64 num, .string text, .int .i64 ref.row, .int .i64 ref.col, .bool ref.pr, .bool ref.pc, .int .i64 to.row, .int .i64 to.col, .bool to.pr, .bool to.pc, .int .i64 fn, .slice a 0 cap] 37)).drew) := (step (step (Below.refl _ w) _) _).drew
    replace P0 := hide P0
    replace P1 := hide P1
    replace BW := hide BW
    go_enter Try.func39, Try.ntmps39
    go_wp2_with fail
    go_region
    go_wp2_with (first
      | (have hq := hb3; go_at_call 42; refine (H2.out _).mono ?_; rintro e w4 ⟨rfl, hb4⟩; have T0 := hide (S0.out.keep hb4); have T1 := hide (S1.out.keep hb4); replace hb4 := hide (next hb3.out hb4); obtain ⟨z41_0, z41_1, z41_2, z41_3, z41_4, z41_5, z41_6, z41_7, z41_8, z41_9, z41_10, z41_11, z41_12, z41_13⟩ := (T1.out).c14; have z41_f := (T1.out).fr; have z41_l := (T1.out).lt)
      | (have hq := hb2; have hw := hb2; go_at_call 49; refine (placeOf_any to.row to.col to.pr to.pc _).mono ?_; rintro e w3 ⟨rfl, hb3⟩; have S0 := hide (R0.out.keep hb3); have S1 := hide (R1.out.keep hb3); replace hb3 := hide (next hb2.out hb3))
      | (have hq := hb1; go_at_call 42; refine (H1.out _).mono ?_; rintro e w2 ⟨rfl, hb2⟩; have R0 := hide (Q0.out.keep hb2); have R1 := hide (Q1.out.keep hb2); replace hb2 := hide (next hb1.out hb2); obtain ⟨z20_0, z20_1, z20_2, z20_3, z20_4, z20_5, z20_6, z20_7, z20_8, z20_9, z20_10, z20_11, z20_12, z20_13⟩ := (R0.out).c14; have z20_f := (R0.out).fr; have z20_l := (R0.out).lt; obtain ⟨z21_0, z21_1, z21_2, z21_3, z21_4, z21_5, z21_6, z21_7, z21_8, z21_9, z21_10, z21_11, z21_12, z21_13⟩ := (R1.out).c14; have z21_f := (R1.out).fr; have z21_l := (R1.out).lt)
      | (have hq := BW; skip; go_at_call 49; refine (placeOf_any ref.row ref.col ref.pr ref.pc _).mono ?_; rintro e w1 ⟨rfl, hb1⟩; have Q0 := hide (P0.out.keep hb1); have Q1 := hide (P1.out.keep hb1); replace hb1 := hide (next BW.out hb1))
      | (go_at_call 51; with_reducible refine (HF.out _).mono ?_; rintro e w9 ⟨rfl, hb9⟩; replace hb9 := hide hb9))
    all_goals go_ret
    all_goals refine ⟨ret_bool ?_, by first | exact next (below_st8 hb4.out) hb9.out | exact below_st8 hb4.out⟩
    all_goals first
      | rfl
      | (simp; done)
      | (simp [*]; done)
  · have el : ((len : Int) == 0) = false := by simp; omega
    have el' : decide (len = 0) = false := decide_eq_false hl0
    rw [el']
    replace hl0 := hide hl0
    have H1 := hide (spotMay_any ref.row ref.col)
    obtain ⟨q, q'⟩ := q
    have H2 := hide (spotMay_any to.row to.col)
    rw [q'] at H2 ⊢
    rw [q] at H1 ⊢
    have P0 : Blk (((w.alloc (exO ⟨6, op, num, text, ref, to, fn⟩ (.slice a len cap))).alloc (.cells #[.int .i64 0, .int .i64 op, .int .i64 num, .string text, .int .i64 ref.row, .int .i64 ref.col, .bool ref.pr, .bool ref.pc, .int .i64 to.row, .int .i64 to.col, .bool to.pr, .bool to.pc, .int .i64 fn, .slice a len cap] 37)).drew) w.heap.size (exC ⟨6, op, num, text, ref, to, fn⟩ (.slice a len cap)) 37 := (Blk.new w (exC ⟨6, op, num, text, ref, to, fn⟩ (.slice a len cap)) 37).alloc (.cells #[.int .i64 0, .int .i64 op, .int .i64 num, .string text, .int .i64 ref.row, .int .i64 ref.col, .bool ref.pr, .bool ref.pc, .int .i64 to.row, .int .i64 to.col, .bool to.pr, .bool to.pc, .int .i64 fn, .slice a len cap] 37)
    have P1 : Blk (((w.alloc (exO ⟨6, op, num, text, ref, to, fn⟩ (.slice a len cap))).alloc (.cells #[.int .i64 0, .int .i64 op, .int .i64 num, .string text, .int .i64 ref.row, .int .i64 ref.col, .bool ref.pr, .bool ref.pc, .int .i64 to.row, .int .i64 to.col, .bool to.pr, .bool to.pc, .int .i64 fn, .slice a len cap] 37)).drew) (w.heap.size + 1) (exC ⟨0, op, num, text, ref, to, fn⟩ (.slice a len cap)) 37 := Blk.new1 w (exO ⟨6, op, num, text, ref, to, fn⟩ (.slice a len cap)) (exC ⟨0, op, num, text, ref, to, fn⟩ (.slice a len cap)) 37
    have BW : Below w.heap.size w (((w.alloc (exO ⟨6, op, num, text, ref, to, fn⟩ (.slice a len cap))).alloc (.cells #[.int .i64 0, .int .i64 op, .int .i64 num, .string text, .int .i64 ref.row, .int .i64 ref.col, .bool ref.pr, .bool ref.pc, .int .i64 to.row, .int .i64 to.col, .bool to.pr, .bool to.pc, .int .i64 fn, .slice a len cap] 37)).drew) := (step (step (Below.refl _ w) _) _).drew
    replace P0 := hide P0
    replace P1 := hide P1
    replace BW := hide BW
    go_enter Try.func39, Try.ntmps39
    go_wp2_with fail
    go_region
    go_wp2_with (first
      | (have hq := hb3; go_at_call 42; refine (H2.out _).mono ?_; rintro e w4 ⟨rfl, hb4⟩; have T0 := hide (S0.out.keep hb4); have T1 := hide (S1.out.keep hb4); replace hb4 := hide (next hb3.out hb4); obtain ⟨z41_0, z41_1, z41_2, z41_3, z41_4, z41_5, z41_6, z41_7, z41_8, z41_9, z41_10, z41_11, z41_12, z41_13⟩ := (T1.out).c14; have z41_f := (T1.out).fr; have z41_l := (T1.out).lt)
      | (have hq := hb2; have hw := hb2; go_at_call 49; refine (placeOf_any to.row to.col to.pr to.pc _).mono ?_; rintro e w3 ⟨rfl, hb3⟩; have S0 := hide (R0.out.keep hb3); have S1 := hide (R1.out.keep hb3); replace hb3 := hide (next hb2.out hb3))
      | (have hq := hb1; go_at_call 42; refine (H1.out _).mono ?_; rintro e w2 ⟨rfl, hb2⟩; have R0 := hide (Q0.out.keep hb2); have R1 := hide (Q1.out.keep hb2); replace hb2 := hide (next hb1.out hb2); obtain ⟨z20_0, z20_1, z20_2, z20_3, z20_4, z20_5, z20_6, z20_7, z20_8, z20_9, z20_10, z20_11, z20_12, z20_13⟩ := (R0.out).c14; have z20_f := (R0.out).fr; have z20_l := (R0.out).lt; obtain ⟨z21_0, z21_1, z21_2, z21_3, z21_4, z21_5, z21_6, z21_7, z21_8, z21_9, z21_10, z21_11, z21_12, z21_13⟩ := (R1.out).c14; have z21_f := (R1.out).fr; have z21_l := (R1.out).lt)
      | (have hq := BW; skip; go_at_call 49; refine (placeOf_any ref.row ref.col ref.pr ref.pc _).mono ?_; rintro e w1 ⟨rfl, hb1⟩; have Q0 := hide (P0.out.keep hb1); have Q1 := hide (P1.out.keep hb1); replace hb1 := hide (next BW.out hb1))
      | (go_at_call 51; with_reducible refine (HF.out _).mono ?_; rintro e w9 ⟨rfl, hb9⟩; replace hb9 := hide hb9))
    all_goals go_ret
    all_goals refine ⟨ret_bool ?_, by first | exact next (below_st8 hb4.out) hb9.out | exact below_st8 hb4.out⟩
    all_goals first
      | rfl
      | (simp; done)
      | (simp [*]; done)
set_option maxHeartbeats 4000000 in
set_option maxRecDepth 100000 in
theorem told_6f (n : Nd) (a : Option Addr) (len cap : Nat) (w : World) (hk : n.kind = 6) (q : mayB n.ref.row n.ref.col = false) : Calls Try.prog 39 #[exV n (.slice a len cap)] w fun e w' => e = .returned (.bool (toldB n len)) ∧ Below w.heap.size w w' := by
  obtain ⟨kind, op, num, text, ref, to, fn⟩ := n
  simp only at hk q
  subst hk
  have HF : Hid (∀ w, Calls Try.prog 51 #[.agg #[.int .i64 0, .int .i64 op, .int .i64 num, .string text, .int .i64 0, .int .i64 0, .bool false, .bool false, .int .i64 0, .int .i64 0, .bool false, .bool false, .int .i64 fn, .slice a len cap], .agg #[.int .i64 0, .int .i64 0, .int .i64 0, .string { data := #[] }, .int .i64 0, .int .i64 0, .bool false, .bool false, .int .i64 0, .int .i64 0, .bool false, .bool false, .int .i64 0, .slice none 0 0]] w fun e w' => e = .returned (.bool (ndB { kind := 0, op := op, num := num, text := text, ref := ⟨0, 0, false, false⟩, to := ⟨0, 0, false, false⟩, fn := fn } ⟨0, 0, 0, no, ⟨0, 0, false, false⟩, ⟨0, 0, false, false⟩, 0⟩)) ∧ Below w.heap.size w w') := hide (fields_any { kind := 0, op := op, num := num, text := text, ref := ⟨0, 0, false, false⟩, to := ⟨0, 0, false, false⟩, fn := fn } ⟨0, 0, 0, no, ⟨0, 0, false, false⟩, ⟨0, 0, false, false⟩, 0⟩ (.slice a len cap) (.slice none 0 0))
  obtain ⟨a0, a1, a2, a3, a4, a5, a6, a7, a8, a9, a10, a11, a12, a13⟩ := at14 ⟨6, op, num, text, ref, to, fn⟩ (.slice a len cap)
  have hT : toldB ⟨6, op, num, text, ref, to, fn⟩ len = ((mayB ref.row ref.col && mayB to.row to.col) && decide (len = 0) && ndB { kind := 0, op := op, num := num, text := text, ref := ⟨0, 0, false, false⟩, to := ⟨0, 0, false, false⟩, fn := fn } ⟨0, 0, 0, no, ⟨0, 0, false, false⟩, ⟨0, 0, false, false⟩, 0⟩) := rfl
  rw [hT]
  clear hT
  generalize ndB _ _ = B at *
  by_cases hl0 : len = 0
  · subst hl0
    have H1 := hide (spotMay_any ref.row ref.col)
    rw [q] at H1 ⊢
    have P0 : Blk (((w.alloc (exO ⟨6, op, num, text, ref, to, fn⟩ (.slice a 0 cap))).alloc (.cells #[.int .i64 0, .int .i64 op, .int .i64 num, .string text, .int .i64 ref.row, .int .i64 ref.col, .bool ref.pr, .bool ref.pc, .int .i64 to.row, .int .i64 to.col, .bool to.pr, .bool to.pc, .int .i64 fn, .slice a 0 cap] 37)).drew) w.heap.size (exC ⟨6, op, num, text, ref, to, fn⟩ (.slice a 0 cap)) 37 := (Blk.new w (exC ⟨6, op, num, text, ref, to, fn⟩ (.slice a 0 cap)) 37).alloc (.cells #[.int .i64 0, .int .i64 op, .int .i64 num, .string text, .int .i64 ref.row, .int .i64 ref.col, .bool ref.pr, .bool ref.pc, .int .i64 to.row, .int .i64 to.col, .bool to.pr, .bool to.pc, .int .i64 fn, .slice a 0 cap] 37)
    have P1 : Blk (((w.alloc (exO ⟨6, op, num, text, ref, to, fn⟩ (.slice a 0 cap))).alloc (.cells #[.int .i64 0, .int .i64 op, .int .i64 num, .string text, .int .i64 ref.row, .int .i64 ref.col, .bool ref.pr, .bool ref.pc, .int .i64 to.row, .int .i64 to.col, .bool to.pr, .bool to.pc, .int .i64 fn, .slice a 0 cap] 37)).drew) (w.heap.size + 1) (exC ⟨0, op, num, text, ref, to, fn⟩ (.slice a 0 cap)) 37 := Blk.new1 w (exO ⟨6, op, num, text, ref, to, fn⟩ (.slice a 0 cap)) (exC ⟨0, op, num, text, ref, to, fn⟩ (.slice a 0 cap)) 37
    have BW : Below w.heap.size w (((w.alloc (exO ⟨6, op, num, text, ref, to, fn⟩ (.slice a 0 cap))).alloc (.cells #[.int .i64 0, .int .i64 op, .int .i64 num, .string text, .int .i64 ref.row, .int .i64 ref.col, .bool ref.pr, .bool ref.pc, .int .i64 to.row, .int .i64 to.col, .bool to.pr, .bool to.pc, .int .i64 fn, .slice a 0 cap] 37)).drew) := (step (step (Below.refl _ w) _) _).drew
    replace P0 := hide P0
    replace P1 := hide P1
    replace BW := hide BW
    go_enter Try.func39, Try.ntmps39
    go_wp2_with fail
    go_region
    go_wp2_with (first
      | (have hq := hb1; go_at_call 42; refine (H1.out _).mono ?_; rintro e w2 ⟨rfl, hb2⟩; have R0 := hide (Q0.out.keep hb2); have R1 := hide (Q1.out.keep hb2); replace hb2 := hide (next hb1.out hb2); obtain ⟨z20_0, z20_1, z20_2, z20_3, z20_4, z20_5, z20_6, z20_7, z20_8, z20_9, z20_10, z20_11, z20_12, z20_13⟩ := (R0.out).c14; have z20_f := (R0.out).fr; have z20_l := (R0.out).lt; obtain ⟨z21_0, z21_1, z21_2, z21_3, z21_4, z21_5, z21_6, z21_7, z21_8, z21_9, z21_10, z21_11, z21_12, z21_13⟩ := (R1.out).c14; have z21_f := (R1.out).fr; have z21_l := (R1.out).lt)
      | (have hq := BW; skip; go_at_call 49; refine (placeOf_any ref.row ref.col ref.pr ref.pc _).mono ?_; rintro e w1 ⟨rfl, hb1⟩; have Q0 := hide (P0.out.keep hb1); have Q1 := hide (P1.out.keep hb1); replace hb1 := hide (next BW.out hb1))
      | (go_at_call 51; with_reducible refine (HF.out _).mono ?_; rintro e w9 ⟨rfl, hb9⟩; replace hb9 := hide hb9))
    all_goals go_ret
    all_goals refine ⟨ret_bool ?_, by first | exact next (below_st8 hb2.out) hb9.out | exact below_st8 hb2.out⟩
    all_goals first
      | rfl
      | (simp; done)
      | (simp [*]; done)
  · have el : ((len : Int) == 0) = false := by simp; omega
    have el' : decide (len = 0) = false := decide_eq_false hl0
    rw [el']
    replace hl0 := hide hl0
    have H1 := hide (spotMay_any ref.row ref.col)
    rw [q] at H1 ⊢
    have P0 : Blk (((w.alloc (exO ⟨6, op, num, text, ref, to, fn⟩ (.slice a len cap))).alloc (.cells #[.int .i64 0, .int .i64 op, .int .i64 num, .string text, .int .i64 ref.row, .int .i64 ref.col, .bool ref.pr, .bool ref.pc, .int .i64 to.row, .int .i64 to.col, .bool to.pr, .bool to.pc, .int .i64 fn, .slice a len cap] 37)).drew) w.heap.size (exC ⟨6, op, num, text, ref, to, fn⟩ (.slice a len cap)) 37 := (Blk.new w (exC ⟨6, op, num, text, ref, to, fn⟩ (.slice a len cap)) 37).alloc (.cells #[.int .i64 0, .int .i64 op, .int .i64 num, .string text, .int .i64 ref.row, .int .i64 ref.col, .bool ref.pr, .bool ref.pc, .int .i64 to.row, .int .i64 to.col, .bool to.pr, .bool to.pc, .int .i64 fn, .slice a len cap] 37)
    have P1 : Blk (((w.alloc (exO ⟨6, op, num, text, ref, to, fn⟩ (.slice a len cap))).alloc (.cells #[.int .i64 0, .int .i64 op, .int .i64 num, .string text, .int .i64 ref.row, .int .i64 ref.col, .bool ref.pr, .bool ref.pc, .int .i64 to.row, .int .i64 to.col, .bool to.pr, .bool to.pc, .int .i64 fn, .slice a len cap] 37)).drew) (w.heap.size + 1) (exC ⟨0, op, num, text, ref, to, fn⟩ (.slice a len cap)) 37 := Blk.new1 w (exO ⟨6, op, num, text, ref, to, fn⟩ (.slice a len cap)) (exC ⟨0, op, num, text, ref, to, fn⟩ (.slice a len cap)) 37
    have BW : Below w.heap.size w (((w.alloc (exO ⟨6, op, num, text, ref, to, fn⟩ (.slice a len cap))).alloc (.cells #[.int .i64 0, .int .i64 op, .int .i64 num, .string text, .int .i64 ref.row, .int .i64 ref.col, .bool ref.pr, .bool ref.pc, .int .i64 to.row, .int .i64 to.col, .bool to.pr, .bool to.pc, .int .i64 fn, .slice a len cap] 37)).drew) := (step (step (Below.refl _ w) _) _).drew
    replace P0 := hide P0
    replace P1 := hide P1
    replace BW := hide BW
    go_enter Try.func39, Try.ntmps39
    go_wp2_with fail
    go_region
    go_wp2_with (first
      | (have hq := hb1; go_at_call 42; refine (H1.out _).mono ?_; rintro e w2 ⟨rfl, hb2⟩; have R0 := hide (Q0.out.keep hb2); have R1 := hide (Q1.out.keep hb2); replace hb2 := hide (next hb1.out hb2); obtain ⟨z20_0, z20_1, z20_2, z20_3, z20_4, z20_5, z20_6, z20_7, z20_8, z20_9, z20_10, z20_11, z20_12, z20_13⟩ := (R0.out).c14; have z20_f := (R0.out).fr; have z20_l := (R0.out).lt; obtain ⟨z21_0, z21_1, z21_2, z21_3, z21_4, z21_5, z21_6, z21_7, z21_8, z21_9, z21_10, z21_11, z21_12, z21_13⟩ := (R1.out).c14; have z21_f := (R1.out).fr; have z21_l := (R1.out).lt)
      | (have hq := BW; skip; go_at_call 49; refine (placeOf_any ref.row ref.col ref.pr ref.pc _).mono ?_; rintro e w1 ⟨rfl, hb1⟩; have Q0 := hide (P0.out.keep hb1); have Q1 := hide (P1.out.keep hb1); replace hb1 := hide (next BW.out hb1))
      | (go_at_call 51; with_reducible refine (HF.out _).mono ?_; rintro e w9 ⟨rfl, hb9⟩; replace hb9 := hide hb9))
    all_goals go_ret
    all_goals refine ⟨ret_bool ?_, by first | exact next (below_st8 hb2.out) hb9.out | exact below_st8 hb2.out⟩
    all_goals first
      | rfl
      | (simp; done)
      | (simp [*]; done)
end Go.Proofs.Ytiajoppbgebnpaa
