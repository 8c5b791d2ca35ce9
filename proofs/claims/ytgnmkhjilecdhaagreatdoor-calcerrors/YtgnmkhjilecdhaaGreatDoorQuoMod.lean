/- whole.Quo answers the quotient cut toward 0, whole.Mod what is left of the divisor's sign, with ErrZero and ErrOver where the document asks for them: proved of the Go text for all numbers of 64 bits. -/
import Derived.Test.YtgnmkhjilecdhaaGreatDoorRows
import Derived.Test.YtgnmkhjilecdhaaGreatDoorBaJ
import Derived.WalkKit
import Derived.WalkSpells
import Derived.WalkLawsBesides
namespace Go.Proofs.YtgnmkhjilecdhaaGreatDoor
open Go.RowKit
set_option linter.unusedVariables false

/-- A quotient of 64 bits fits, but for the least number by -1. -/
theorem tdiv_fits (a b : Int) (ha : -9223372036854775808 ≤ a) (ha' : a ≤ 9223372036854775807) (zb : b ≠ 0) (hn : ¬ (a = -9223372036854775808 ∧ b = -1)) : -9223372036854775808 ≤ a.tdiv b ∧ a.tdiv b ≤ 9223372036854775807 := by
  have nq : (a.tdiv b).natAbs = a.natAbs / b.natAbs := Int.natAbs_tdiv a b
  have hle : a.natAbs / b.natAbs ≤ a.natAbs := Nat.div_le_self _ _
  by_cases h1 : a = -9223372036854775808
  · by_cases h2 : b = 1
    · subst h2; simp; omega
    · have : a.natAbs / b.natAbs < a.natAbs := Nat.div_lt_self (by omega) (by omega)
      omega
  · omega
theorem tmod_bd (a b : Int) (zb : b ≠ 0) : (a.tmod b).natAbs < b.natAbs := by rw [Int.natAbs_tmod]; exact Nat.mod_lt _ (by omega)
theorem tmod_eq (a b : Int) : a - a.tdiv b * b = a.tmod b := by
  have := Int.mul_tdiv_add_tmod a b
  rw [Int.mul_comm] at this; omega
theorem tmod_sign (a b : Int) : (0 ≤ a → 0 ≤ a.tmod b) ∧ (a ≤ 0 → a.tmod b ≤ 0) := by
  refine ⟨fun h => Int.tmod_nonneg b h, fun h => ?_⟩
  have := Int.tmod_nonneg b (show 0 ≤ -a by omega)
  rw [Int.neg_tmod] at this; omega

set_option maxHeartbeats 400000 in
theorem quo_zero (a : Int) (w : World) :
    Calls Tryz.prog 23 #[.int .i64 a, .int .i64 0] w fun e w' => e = .returned (.tuple #[.int .i64 0, .int .i64 14]) ∧ w' = w := by
  go_enter Tryz.func23, Tryz.ntmps23
  go_wp2
  go_ret2
  exact ⟨rfl, rfl⟩
set_option maxHeartbeats 400000 in
theorem quo_over (w : World) :
    Calls Tryz.prog 23 #[.int .i64 (-9223372036854775808), .int .i64 (-1)] w fun e w' => e = .returned (.tuple #[.int .i64 0, .int .i64 13]) ∧ w' = w := by
  go_enter Tryz.func23, Tryz.ntmps23
  go_wp2
  go_ret2
  exact ⟨rfl, rfl⟩
set_option maxHeartbeats 400000 in
theorem quo_ok (a b q : Int) (w : World) (hq : a.tdiv b = q) (ha : -9223372036854775808 ≤ a) (ha' : a ≤ 9223372036854775807) (zb : b ≠ 0) (hn : ¬ (a = -9223372036854775808 ∧ b = -1)) :
    Calls Tryz.prog 23 #[.int .i64 a, .int .i64 b] w fun e w' => e = .returned (.tuple #[.int .i64 q, .int .i64 0]) ∧ w' = w := by
  obtain ⟨q1, q2⟩ := tdiv_fits a b ha ha' zb hn
  rw [hq] at q1 q2
  have tb : (b == 0) = false := by rw [beq_eq_false_iff_ne]; exact zb
  by_cases h : a = -9223372036854775808
  · have t1 : (b == -1) = false := by rw [beq_eq_false_iff_ne]; exact fun h' => hn ⟨h, h'⟩
    have t2 : (a == -9223372036854775808) = true := by rw [beq_iff_eq]; exact h
    clear h hn
    go_enter Tryz.func23, Tryz.ntmps23
    go_wp2
    go_ret2
    exact ⟨rfl, rfl⟩
  · have t2 : (a == -9223372036854775808) = false := by rw [beq_eq_false_iff_ne]; exact h
    clear h hn
    go_enter Tryz.func23, Tryz.ntmps23
    go_wp2
    go_ret2
    exact ⟨rfl, rfl⟩
set_option maxHeartbeats 400000 in
theorem mod_zero (a : Int) (w : World) :
    Calls Tryz.prog 36 #[.int .i64 a, .int .i64 0] w fun e w' => e = .returned (.tuple #[.int .i64 0, .int .i64 14]) ∧ w' = w := by
  go_enter Tryz.func36, Tryz.ntmps36
  go_wp2
  go_ret2
  exact ⟨rfl, rfl⟩
/-- What is left, of the divisor's side. -/
def modV (r b : Int) : Int := if r ≠ 0 ∧ ¬ (r < 0 ↔ b < 0) then r + b else r
set_option maxHeartbeats 400000 in
theorem mod_ok (a b r : Int) (w : World) (hr : a.tmod b = r) (hb : -9223372036854775808 ≤ b) (hb' : b ≤ 9223372036854775807) (zb : b ≠ 0) :
    Calls Tryz.prog 36 #[.int .i64 a, .int .i64 b] w fun e w' => e = .returned (.tuple #[.int .i64 (modV r b), .int .i64 0]) ∧ w' = w := by
  have hl := tmod_bd a b zb
  rw [hr] at hl
  have r1 : -9223372036854775808 ≤ r := by omega
  have r2 : r ≤ 9223372036854775807 := by omega
  have tb : (b == 0) = false := by rw [beq_eq_false_iff_ne]; exact zb
  by_cases h0 : r = 0
  · have t0 : (r != 0) = false := by rw [h0]; rfl
    have HV := hide (show modV r b = r from if_neg (fun h => h.1 h0))
    clear h0 hl
    go_enter Tryz.func36, Tryz.ntmps36
    go_wp2
    go_ret2
    exact ⟨ret_ii HV.out.symm rfl, rfl⟩
  · have t0 : (r != 0) = true := by rw [bne_iff_ne]; exact h0
    by_cases h1 : (r < 0 ↔ b < 0)
    · have t1 : (decide (r < 0) == decide (b < 0)) = true := by rw [beq_iff_eq, decide_eq_decide]; exact h1
      have HV := hide (show modV r b = r from if_neg (fun h => h.2 h1))
      clear h0 hl h1
      go_enter Tryz.func36, Tryz.ntmps36
      go_wp2
      go_ret2
      exact ⟨ret_ii HV.out.symm rfl, rfl⟩
    · have t1 : (decide (r < 0) == decide (b < 0)) = false := by rw [beq_eq_false_iff_ne, ne_eq, decide_eq_decide]; exact h1
      have HV := hide (show modV r b = r + b from if_pos ⟨h0, h1⟩)
      have s1 : -9223372036854775808 ≤ r + b := by omega
      have s2 : r + b ≤ 9223372036854775807 := by omega
      clear h0 hl h1
      go_enter Tryz.func36, Tryz.ntmps36
      go_wp2
      go_ret2
      exact ⟨ret_ii HV.out.symm rfl, rfl⟩
end Go.Proofs.YtgnmkhjilecdhaaGreatDoor
