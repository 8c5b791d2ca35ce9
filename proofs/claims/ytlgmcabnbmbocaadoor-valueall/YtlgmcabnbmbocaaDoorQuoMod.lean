/- whole.Quo answers the quotient cut toward 0, whole.Mod what is left of the divisor's sign, with ErrZero and ErrOver where the document asks for them: proved of the Go text for all numbers of 64 bits. -/
import Derived.Test.YtlgmcabnbmbocaaDoorRows
import Derived.Test.YtlgmcabnbmbocaaDoorMath
import Derived.Test.YtlgmcabnbmbocaaDoorBytes
import Derived.WalkKit
import Derived.WalkSpells
import Derived.WalkLawsBesides
namespace Go.Proofs.YtlgmcabnbmbocaaDoor
open Go.RowKit
set_option linter.unusedVariables false

/-- A quotient of 64 bits fits, but for the least number by -1. -/
theorem tdiv_fits (a b : Int) (ha : -9223372036854775808 ≤ a) (ha' : a ≤ 9223372036854775807) (zb : b ≠ 0) (hn : ¬ (a = -9223372036854775808 ∧ b = -1)) : -9223372036854775808 ≤ a.tdiv b ∧ a.tdiv b ≤ 9223372036854775807 := by
  have nq : (a.tdiv b).natAbs = a.natAbs / b.natAbs := Int.natAbs_tdiv a b
  have hle : a.natAbs / b.natAbs ≤ a.natAbs := Nat.div_le_self _ _
  by_cases h1 : a = -9223372036854775808
  · by_cases h2 : b = 1
    · subst h2; simp; omega
    · have : a.natAbs / b.natAbs < a.natAbs := Nat.div_lt_self (by omega) (by omega)
      omega
  · omega
theorem tmod_bd (a b : Int) (zb : b ≠ 0) : (a.tmod b).natAbs < b.natAbs := by rw [Int.natAbs_tmod]; exact Nat.mod_lt _ (by omega)
theorem tmod_eq (a b : Int) : a - a.tdiv b * b = a.tmod b := by
  have := Int.mul_tdiv_add_tmod a b
  rw [Int.mul_comm] at this; omega
theorem tmod_sign (a b : Int) : (0 ≤ a → 0 ≤ a.tmod b) ∧ (a ≤ 0 → a.tmod b ≤ 0) := by
  refine ⟨fun h => Int.tmod_nonneg b h, fun h => ?_⟩
  have := Int.tmod_nonneg b (show 0 ≤ -a by omega)
  rw [Int.neg_tmod] at this; omega

/-- What is left, of the divisor's side. -/
def modV (r b : Int) : Int := if r ≠ 0 ∧ ¬ (r < 0 ↔ b < 0) then r + b else r
end Go.Proofs.YtlgmcabnbmbocaaDoor
