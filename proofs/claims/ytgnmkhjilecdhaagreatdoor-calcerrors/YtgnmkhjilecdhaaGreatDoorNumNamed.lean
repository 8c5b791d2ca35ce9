/- The law NumNamed returns true for all numbers of 32 and of 64 bits, and changes nothing that was there. -/
import Derived.Test.YtgnmkhjilecdhaaGreatDoorBgnJ
namespace Go.Proofs.YtgnmkhjilecdhaaGreatDoor
open Go.RowKit
set_option linter.unusedVariables false

/-- A sum where it fits, else 0; and whether it fits. -/
def sumV32 (z : Int) : Int := if -2147483648 ≤ z ∧ z ≤ 2147483647 then z else 0
def sumB32 (z : Int) : Bool := decide (-2147483648 ≤ z ∧ z ≤ 2147483647)
def sumV64 (z : Int) : Int := if -9223372036854775808 ≤ z ∧ z ≤ 9223372036854775807 then z else 0
def sumB64 (z : Int) : Bool := decide (-9223372036854775808 ≤ z ∧ z ≤ 9223372036854775807)
theorem sumV32_bd (z : Int) : -2147483648 ≤ sumV32 z ∧ sumV32 z ≤ 2147483647 := by unfold sumV32; split <;> omega
theorem sumV64_bd (z : Int) : -9223372036854775808 ≤ sumV64 z ∧ sumV64 z ≤ 9223372036854775807 := by unfold sumV64; split <;> omega
theorem add64_any (a b : Int) (w : World) (ha : -9223372036854775808 ≤ a) (ha' : a ≤ 9223372036854775807) (hb : -9223372036854775808 ≤ b) (hb' : b ≤ 9223372036854775807) :
    Calls Tryz.prog 98 #[.int .i64 a, .int .i64 b] w fun e w' => e = .returned (.tuple #[.int .i64 (sumV64 (a + b)), .bool (sumB64 (a + b))]) ∧ w' = w := by
  by_cases c : -9223372036854775808 ≤ a + b ∧ a + b ≤ 9223372036854775807
  · rw [show sumV64 (a + b) = a + b from if_pos c, show sumB64 (a + b) = true from decide_eq_true c]
    exact add64_yes a b w ha ha' hb hb' c.1 c.2
  · rw [show sumV64 (a + b) = 0 from if_neg c, show sumB64 (a + b) = false from decide_eq_false c]
    exact add64_no a b w ha ha' hb hb' (by omega)
theorem sub64_any (a b : Int) (w : World) (ha : -9223372036854775808 ≤ a) (ha' : a ≤ 9223372036854775807) (hb : -9223372036854775808 ≤ b) (hb' : b ≤ 9223372036854775807) :
    Calls Tryz.prog 21 #[.int .i64 a, .int .i64 b] w fun e w' => e = .returned (.tuple #[.int .i64 (sumV64 (a - b)), .bool (sumB64 (a - b))]) ∧ w' = w := by
  by_cases c : -9223372036854775808 ≤ a - b ∧ a - b ≤ 9223372036854775807
  · rw [show sumV64 (a - b) = a - b from if_pos c, show sumB64 (a - b) = true from decide_eq_true c]
    exact sub64_yes a b w ha ha' hb hb' c.1 c.2
  · rw [show sumV64 (a - b) = 0 from if_neg c, show sumB64 (a - b) = false from decide_eq_false c]
    exact sub64_no a b w ha ha' hb hb' (by omega)
theorem mul64_any (a b : Int) (w : World) (ha : -9223372036854775808 ≤ a) (ha' : a ≤ 9223372036854775807) (hb : -9223372036854775808 ≤ b) (hb' : b ≤ 9223372036854775807) :
    Calls Tryz.prog 97 #[.int .i64 a, .int .i64 b] w fun e w' => e = .returned (.tuple #[.int .i64 (sumV64 (a * b)), .bool (sumB64 (a * b))]) ∧ w' = w := by
  by_cases c : -9223372036854775808 ≤ a * b ∧ a * b ≤ 9223372036854775807
  · rw [show sumV64 (a * b) = a * b from if_pos c, show sumB64 (a * b) = true from decide_eq_true c]
    exact mul64_yes a b w ha ha' hb hb' c.1 c.2
  · rw [show sumV64 (a * b) = 0 from if_neg c, show sumB64 (a * b) = false from decide_eq_false c]
    exact mul64_no a b w ha ha' hb hb' (by omega)
end Go.Proofs.YtgnmkhjilecdhaaGreatDoor
