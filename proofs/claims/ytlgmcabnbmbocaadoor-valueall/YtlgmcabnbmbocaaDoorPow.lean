/- whole.Pow answers the power where it fits 64 bits, else ErrOver: proved of the Go text for every base and every exponent. -/
import Derived.Test.YtlgmcabnbmbocaaDoorRows
import Derived.Test.YtlgmcabnbmbocaaDoorMath
import Derived.Test.YtlgmcabnbmbocaaDoorBytes
import Derived.Test.YtlgmcabnbmbocaaDoorSums
import Derived.WalkKit
import Derived.WalkSpells
import Derived.WalkLawsBesides
namespace Go.Proofs.YtlgmcabnbmbocaaDoor
open Go.RowKit
set_option linter.unusedVariables false

/-- It fits 64 bits. -/
def Fit (z : Int) : Prop := -9223372036854775808 ≤ z ∧ z ≤ 9223372036854775807
theorem fit_of_small {z : Int} (h : z.natAbs ≤ 9223372036854775807) : Fit z := by unfold Fit; omega
theorem unfit_abs {z : Int} (h : ¬ Fit z) : 9223372036854775808 ≤ z.natAbs := by unfold Fit at h; omega
theorem unfit_of {z : Int} (h : 9223372036854775808 < z.natAbs) : ¬ Fit z := by unfold Fit; omega
theorem pow_grow (a : Int) (j n : Nat) (ha : 2 ≤ a.natAbs) (h : j ≤ n) (hf : ¬ Fit (a ^ j)) : ¬ Fit (a ^ n) := by
  obtain ⟨d, rfl⟩ : ∃ d, n = j + d := ⟨n - j, by omega⟩
  cases d with
  | zero => exact hf
  | succ d =>
    apply unfit_of
    have h1 := unfit_abs hf
    rw [Int.pow_add, Int.natAbs_mul, Int.natAbs_pow a (d + 1)]
    have h2 : 2 ≤ a.natAbs ^ (d + 1) := by
      have : a.natAbs ^ 1 ≤ a.natAbs ^ (d + 1) := Nat.pow_le_pow_right (by omega) (by omega)
      rw [Nat.pow_one] at this; omega
    have := Nat.mul_le_mul h1 h2
    omega
theorem pow_neg_one (n : Nat) : (-1 : Int) ^ n = 1 - 2 * ((n : Int) % 2) := by
  induction n with
  | zero => rfl
  | succ n ih => rw [Int.pow_succ, ih]; omega

theorem pow_tests (a : Int) (n : Nat) (h0 : n ≠ 0) (z0 : a ≠ 0) (z1 : a ≠ 1) (zm : a ≠ -1) : ((n : Int) == 0) = false ∧ (a == 0) = false ∧ (a == 1) = false ∧ (a == -1) = false := by
  refine ⟨?_, ?_, ?_, ?_⟩ <;> rw [beq_eq_false_iff_ne] <;> omega
end Go.Proofs.YtlgmcabnbmbocaaDoor
