/- The lowest bits of a number, in the walk's words: of no program. -/
import Derived.Test.YtdbdonpcdoeeiaaMath6
namespace Go.Proofs.Ytdbdonpcdoeeiaa
open Go.RowKit
set_option linter.unusedVariables false

theorem pow_int (n : Nat) : (2 : Int) ^ n = ((2 ^ n : Nat) : Int) := by rw [Int.natCast_pow]; rfl
theorem pow_le64 (n : Nat) (h : n ≤ 64) : 2 ^ n ≤ 18446744073709551616 := Nat.pow_le_pow_right (n := 2) (j := 64) (by decide) h
theorem mask_int (f n : Nat) (hf : f < 18446744073709551616) (hn : n ≤ 64) : bits .and .u64 (f : Int) (IntKind.u64.wrap (IntKind.u64.wrap (2 ^ n) - 1)) = ((f % 2 ^ n : Nat) : Int) := by
  have hp : 0 < 2 ^ n := Nat.two_pow_pos n
  have hle := pow_le64 n hn
  have e : IntKind.u64.wrap (IntKind.u64.wrap (2 ^ n) - 1) = ((2 ^ n - 1 : Nat) : Int) := by
    rw [pow_int, IntKind.wrap_u64, IntKind.wrap_u64]
    generalize 2 ^ n = p at hp hle
    omega
  rw [e, u64_and_nat f (2 ^ n - 1) hf (by omega), and_mask f n hf]
theorem bit_int (f i : Nat) (hf : f < 18446744073709551616) (hi : i < 64) : bits .or .u64 ((f % 2 ^ i : Nat) : Int) (bits .and .u64 (f : Int) (IntKind.u64.wrap (2 ^ i))) = ((f % 2 ^ (i + 1) : Nat) : Int) := by
  have h63 : 2 ^ i ≤ 9223372036854775808 := Nat.pow_le_pow_right (n := 2) (j := 63) (by decide) (by omega)
  have e : IntKind.u64.wrap (2 ^ i) = ((2 ^ i : Nat) : Int) := by
    rw [pow_int, IntKind.wrap_u64]
    generalize 2 ^ i = p at h63
    omega
  have hm := Nat.mod_le f (2 ^ i)
  have ha : f &&& 2 ^ i < 18446744073709551616 := Nat.lt_of_le_of_lt Nat.and_le_left hf
  rw [e, u64_and_nat f (2 ^ i) hf (by omega), u64_or_nat _ _ (by omega) ha, low_bit]
theorem shift_int (f n m : Nat) (hn : n ≤ 64) (hm : (64 : Int) - (n : Int) = (m : Int)) : IntKind.u64.wrap ((f : Int) * 2 ^ m) / 2 ^ m = ((f % 2 ^ n : Nat) : Int) := by
  obtain rfl : m = 64 - n := by omega
  rw [pow_int, IntKind.wrap_u64, ← Int.natCast_mul, show (18446744073709551616 : Int) = ((18446744073709551616 : Nat) : Int) from rfl, ← Int.natCast_emod, ← Int.natCast_ediv, shl_shr f n hn]
end Go.Proofs.Ytdbdonpcdoeeiaa
