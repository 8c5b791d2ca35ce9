/- tree.isAsTold of kinds 7, 8 and of no kind. -/
import Derived.Test.YtiajoppbgebnpaaTold9
namespace Go.Proofs.Ytiajoppbgebnpaa
open Go.RowKit Go.Sort
set_option linter.unusedVariables false

set_option maxHeartbeats 4000000 in
set_option maxRecDepth 100000 in
theorem told_7 (n : Nd) (a : Option Addr) (len cap : Nat) (w : World) (hk : n.kind = 7)  : Calls Try.prog 39 #[exV n (.slice a len cap)] w fun e w' => e = .returned (.bool (toldB n len)) ∧ Below w.heap.size w w' := by
  obtain ⟨kind, op, num, text, ref, to, fn⟩ := n
  simp only at hk 
  subst hk
  have HF : Hid (∀ w, Calls Try.prog 51 #[.agg #[.int .i64 0, .int .i64 0, .int .i64 num, .string text, .int .i64 ref.row, .int .i64 ref.col, .bool ref.pr, .bool ref.pc, .int .i64 to.row, .int .i64 to.col, .bool to.pr, .bool to.pc, .int .i64 fn, .slice none 0 0], .agg #[.int .i64 0, .int .i64 0, .int .i64 0, .string { data := #[] }, .int .i64 0, .int .i64 0, .bool false, .bool false, .int .i64 0, .int .i64 0, .bool false, .bool false, .int .i64 0, .slice none 0 0]] w fun e w' => e = .returned (.bool (ndB { kind := 0, op := 0, num := num, text := text, ref := ref, to := to, fn := fn } ⟨0, 0, 0, no, ⟨0, 0, false, false⟩, ⟨0, 0, false, false⟩, 0⟩)) ∧ Below w.heap.size w w') := hide (fields_any { kind := 0, op := 0, num := num, text := text, ref := ref, to := to, fn := fn } ⟨0, 0, 0, no, ⟨0, 0, false, false⟩, ⟨0, 0, false, false⟩, 0⟩ (.slice none 0 0) (.slice none 0 0))
  obtain ⟨a0, a1, a2, a3, a4, a5, a6, a7, a8, a9, a10, a11, a12, a13⟩ := at14 ⟨7, op, num, text, ref, to, fn⟩ (.slice a len cap)
  have hT : toldB ⟨7, op, num, text, ref, to, fn⟩ len = (decide (1 ≤ op ∧ op ≤ 3 ∧ len = 1) && decide (0 = 0) && ndB { kind := 0, op := 0, num := num, text := text, ref := ref, to := to, fn := fn } ⟨0, 0, 0, no, ⟨0, 0, false, false⟩, ⟨0, 0, false, false⟩, 0⟩) := rfl
  rw [hT]
  clear hT
  generalize ndB _ _ = B at *
  go_enter Try.func39, Try.ntmps39
  go_wp2_with fail
  go_region
  go_wp2_with (first
    | (go_at_call 51; with_reducible refine (HF.out _).mono ?_; rintro e w9 ⟨rfl, hb9⟩; replace hb9 := hide hb9))
  all_goals go_ret
  all_goals refine ⟨ret_bool ?_, by first | exact next (by go_grown) hb9.out | go_grown⟩
  all_goals first
    | rfl
    | (simp; done)
    | (simp [*]; done)
    | (simp; omega)
    | (simp [*]; omega)
set_option maxHeartbeats 4000000 in
set_option maxRecDepth 100000 in
theorem told_8 (n : Nd) (a : Option Addr) (len cap : Nat) (w : World) (hk : n.kind = 8)  : Calls Try.prog 39 #[exV n (.slice a len cap)] w fun e w' => e = .returned (.bool (toldB n len)) ∧ Below w.heap.size w w' := by
  obtain ⟨kind, op, num, text, ref, to, fn⟩ := n
  simp only at hk 
  subst hk
  have HF : Hid (∀ w, Calls Try.prog 51 #[.agg #[.int .i64 0, .int .i64 0, .int .i64 num, .string text, .int .i64 ref.row, .int .i64 ref.col, .bool ref.pr, .bool ref.pc, .int .i64 to.row, .int .i64 to.col, .bool to.pr, .bool to.pc, .int .i64 fn, .slice none 0 0], .agg #[.int .i64 0, .int .i64 0, .int .i64 0, .string { data := #[] }, .int .i64 0, .int .i64 0, .bool false, .bool false, .int .i64 0, .int .i64 0, .bool false, .bool false, .int .i64 0, .slice none 0 0]] w fun e w' => e = .returned (.bool (ndB { kind := 0, op := 0, num := num, text := text, ref := ref, to := to, fn := fn } ⟨0, 0, 0, no, ⟨0, 0, false, false⟩, ⟨0, 0, false, false⟩, 0⟩)) ∧ Below w.heap.size w w') := hide (fields_any { kind := 0, op := 0, num := num, text := text, ref := ref, to := to, fn := fn } ⟨0, 0, 0, no, ⟨0, 0, false, false⟩, ⟨0, 0, false, false⟩, 0⟩ (.slice none 0 0) (.slice none 0 0))
  obtain ⟨a0, a1, a2, a3, a4, a5, a6, a7, a8, a9, a10, a11, a12, a13⟩ := at14 ⟨8, op, num, text, ref, to, fn⟩ (.slice a len cap)
  have hT : toldB ⟨8, op, num, text, ref, to, fn⟩ len = (decide (1 ≤ op ∧ op ≤ 12 ∧ len = 2) && decide (0 = 0) && ndB { kind := 0, op := 0, num := num, text := text, ref := ref, to := to, fn := fn } ⟨0, 0, 0, no, ⟨0, 0, false, false⟩, ⟨0, 0, false, false⟩, 0⟩) := rfl
  rw [hT]
  clear hT
  generalize ndB _ _ = B at *
  go_enter Try.func39, Try.ntmps39
  go_wp2_with fail
  go_region
  go_wp2_with (first
    | (go_at_call 51; with_reducible refine (HF.out _).mono ?_; rintro e w9 ⟨rfl, hb9⟩; replace hb9 := hide hb9))
  all_goals go_ret
  all_goals refine ⟨ret_bool ?_, by first | exact next (by go_grown) hb9.out | go_grown⟩
  all_goals first
    | rfl
    | (simp; done)
    | (simp [*]; done)
    | (simp; omega)
    | (simp [*]; omega)
set_option maxHeartbeats 4000000 in
set_option maxRecDepth 100000 in
theorem told_0 (n : Nd) (a : Option Addr) (len cap : Nat) (w : World) (hk : ¬ (1 ≤ n.kind ∧ n.kind ≤ 9))  : Calls Try.prog 39 #[exV n (.slice a len cap)] w fun e w' => e = .returned (.bool (toldB n len)) ∧ Below w.heap.size w w' := by
  obtain ⟨kind, op, num, text, ref, to, fn⟩ := n
  simp only at hk 
  have e1 : (kind == 1) = false := by simp; omega
  have e2 : (kind == 2) = false := by simp; omega
  have e3 : (kind == 3) = false := by simp; omega
  have e4 : (kind == 4) = false := by simp; omega
  have e5 : (kind == 5) = false := by simp; omega
  have e6 : (kind == 6) = false := by simp; omega
  have e7 : (kind == 7) = false := by simp; omega
  have e8 : (kind == 8) = false := by simp; omega
  have e9 : (kind == 9) = false := by simp; omega
  have HF : Hid (∀ w, Calls Try.prog 51 #[.agg #[.int .i64 0, .int .i64 op, .int .i64 num, .string text, .int .i64 ref.row, .int .i64 ref.col, .bool ref.pr, .bool ref.pc, .int .i64 to.row, .int .i64 to.col, .bool to.pr, .bool to.pc, .int .i64 fn, .slice a len cap], .agg #[.int .i64 0, .int .i64 0, .int .i64 0, .string { data := #[] }, .int .i64 0, .int .i64 0, .bool false, .bool false, .int .i64 0, .int .i64 0, .bool false, .bool false, .int .i64 0, .slice none 0 0]] w fun e w' => e = .returned (.bool (ndB { kind := 0, op := op, num := num, text := text, ref := ref, to := to, fn := fn } ⟨0, 0, 0, no, ⟨0, 0, false, false⟩, ⟨0, 0, false, false⟩, 0⟩)) ∧ Below w.heap.size w w') := hide (fields_any { kind := 0, op := op, num := num, text := text, ref := ref, to := to, fn := fn } ⟨0, 0, 0, no, ⟨0, 0, false, false⟩, ⟨0, 0, false, false⟩, 0⟩ (.slice a len cap) (.slice none 0 0))
  obtain ⟨a0, a1, a2, a3, a4, a5, a6, a7, a8, a9, a10, a11, a12, a13⟩ := at14 ⟨kind, op, num, text, ref, to, fn⟩ (.slice a len cap)
  have hT : toldB ⟨kind, op, num, text, ref, to, fn⟩ len = (false && decide (len = 0) && ndB { kind := 0, op := op, num := num, text := text, ref := ref, to := to, fn := fn } ⟨0, 0, 0, no, ⟨0, 0, false, false⟩, ⟨0, 0, false, false⟩, 0⟩) := by unfold toldB okOf leftOf restOf; simp only; rw [if_neg (by omega), if_neg (by omega), if_neg (by omega), if_neg (by omega), if_neg (by omega), if_neg (by omega), if_neg (by omega), if_neg (by omega), if_neg (by omega), if_neg (by omega), if_neg (by omega), if_neg (by omega), if_neg (by omega), if_neg (by omega), if_neg (by omega), if_neg (by omega)]
  rw [hT]
  clear hT
  generalize ndB _ _ = B at *
  by_cases hl0 : len = 0
  · subst hl0
    go_enter Try.func39, Try.ntmps39
    go_wp2_with fail
    go_region
    go_wp2_with (first
      | (go_at_call 51; with_reducible refine (HF.out _).mono ?_; rintro e w9 ⟨rfl, hb9⟩; replace hb9 := hide hb9))
    all_goals go_ret
    all_goals refine ⟨ret_bool ?_, by first | exact next (by go_grown) hb9.out | go_grown⟩
    all_goals first
      | rfl
      | (simp; done)
      | (simp [*]; done)
      | (simp; omega)
      | (simp [*]; omega)
  · have el : ((len : Int) == 0) = false := by simp; omega
    have el' : decide (len = 0) = false := decide_eq_false hl0
    rw [el']
    replace hl0 := hide hl0
    go_enter Try.func39, Try.ntmps39
    go_wp2_with fail
    go_region
    go_wp2_with (first
      | (go_at_call 51; with_reducible refine (HF.out _).mono ?_; rintro e w9 ⟨rfl, hb9⟩; replace hb9 := hide hb9))
    all_goals go_ret
    all_goals refine ⟨ret_bool ?_, by first | exact next (by go_grown) hb9.out | go_grown⟩
    all_goals first
      | rfl
      | (simp; done)
      | (simp [*]; done)
      | (simp; omega)
      | (simp [*]; omega)
end Go.Proofs.Ytiajoppbgebnpaa
