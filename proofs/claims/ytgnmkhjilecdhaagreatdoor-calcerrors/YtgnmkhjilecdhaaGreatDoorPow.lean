/- whole.Pow answers the power where it fits 64 bits, else ErrOver: proved of the Go text for every base and every exponent. -/
import Derived.Test.YtgnmkhjilecdhaaGreatDoorRows
import Derived.Test.YtgnmkhjilecdhaaGreatDoorBaJ
import Derived.WalkKit
import Derived.WalkSpells
import Derived.WalkLawsBesides
namespace Go.Proofs.YtgnmkhjilecdhaaGreatDoor
open Go.RowKit
set_option linter.unusedVariables false

/-- It fits 64 bits. -/
def Fit (z : Int) : Prop := -9223372036854775808 ≤ z ∧ z ≤ 9223372036854775807
theorem fit_of_small {z : Int} (h : z.natAbs ≤ 9223372036854775807) : Fit z := by unfold Fit; omega
theorem unfit_abs {z : Int} (h : ¬ Fit z) : 9223372036854775808 ≤ z.natAbs := by unfold Fit at h; omega
theorem unfit_of {z : Int} (h : 9223372036854775808 < z.natAbs) : ¬ Fit z := by unfold Fit; omega
theorem pow_grow (a : Int) (j n : Nat) (ha : 2 ≤ a.natAbs) (h : j ≤ n) (hf : ¬ Fit (a ^ j)) : ¬ Fit (a ^ n) := by
  obtain ⟨d, rfl⟩ : ∃ d, n = j + d := ⟨n - j, by omega⟩
  cases d with
  | zero => exact hf
  | succ d =>
    apply unfit_of
    have h1 := unfit_abs hf
    rw [Int.pow_add, Int.natAbs_mul, Int.natAbs_pow a (d + 1)]
    have h2 : 2 ≤ a.natAbs ^ (d + 1) := by
      have : a.natAbs ^ 1 ≤ a.natAbs ^ (d + 1) := Nat.pow_le_pow_right (by omega) (by omega)
      rw [Nat.pow_one] at this; omega
    have := Nat.mul_le_mul h1 h2
    omega
theorem pow_neg_one (n : Nat) : (-1 : Int) ^ n = 1 - 2 * ((n : Int) % 2) := by
  induction n with
  | zero => rfl
  | succ n ih => rw [Int.pow_succ, ih]; omega

set_option maxHeartbeats 1000000 in
theorem growing_yes (a : Int) (n : Nat) (w : World) (ha : -9223372036854775808 ≤ a) (ha' : a ≤ 9223372036854775807) (hn : (n : Int) ≤ 9223372036854775807) (h2 : 2 ≤ a.natAbs) (hf : Fit (a ^ n)) :
    Calls Tryz.prog 106 #[.int .i64 a, .int .i64 n] w fun e w' => e = .returned (.tuple #[.int .i64 (a ^ n), .int .i64 0]) ∧ w' = w := by
  have HF := hide hf
  have H2 := hide h2
  clear hf h2
  obtain ⟨z, hz⟩ : ∃ z, z = a ^ n := ⟨_, rfl⟩
  rw [← hz]
  have HZ := hide hz
  clear hz
  go_enter Tryz.func106, Tryz.ntmps106
  go_wp2
  go_loop [6, 10] (fun p i => ∃ (k : Nat) (v : Int), k ≤ n ∧ i = .int .i64 k ∧ Hid (v = a ^ k) ∧ p = .int .i64 v ∧ -9223372036854775808 ≤ v ∧ v ≤ 9223372036854775807) (fun _ i => n - (intOf i).toNat)
  case atStart => exact ⟨0, 1, Nat.zero_le _, rfl, hide (Int.pow_zero a).symm, rfl, by decide, by decide⟩
  case round =>
    obtain ⟨k, v, hk, rfl, Hv, rfl, v1, v2⟩ := hrel
    by_cases hlt : k < n
    · have Hm : Hid (Fit (v * a)) := by
        rw [Hv.out, ← Int.pow_succ]
        exact Classical.byContradiction fun h => pow_grow a (k + 1) n H2.out (by omega) h HF.out
      have Hn : Hid (v * a = a ^ (k + 1)) := by rw [Hv.out, ← Int.pow_succ]; rfl
      go_wp2_with (go_at_call 97; refine (mul64_yes _ _ _ (by omega) (by omega) (by omega) (by omega) Hm.out.1 Hm.out.2).mono ?_; rintro e w' ⟨rfl, rfl⟩)
      go_round
      case rel => exact ⟨k + 1, v * a, by omega, by go_num, Hn.out, rfl, Hm.out.1, Hm.out.2⟩
      case measure => simp [intOf]; omega
    · have Hw : Hid (v = z) := by rw [Hv.out, HZ.out, show k = n by omega]; rfl
      go_wp2
      go_ret2
      exact ⟨ret_ii Hw.out rfl, rfl⟩

set_option maxHeartbeats 1000000 in
theorem growing_no (a : Int) (n : Nat) (w : World) (ha : -9223372036854775808 ≤ a) (ha' : a ≤ 9223372036854775807) (hn : (n : Int) ≤ 9223372036854775807) (h2 : 2 ≤ a.natAbs) (hf : ¬ Fit (a ^ n)) :
    Calls Tryz.prog 106 #[.int .i64 a, .int .i64 n] w fun e w' => e = .returned (.tuple #[.int .i64 0, .int .i64 13]) ∧ w' = w := by
  have HF := hide hf
  have H2 := hide h2
  clear hf h2
  go_enter Tryz.func106, Tryz.ntmps106
  go_wp2
  go_loop [6, 10] (fun p i => ∃ (k : Nat) (v : Int), k ≤ n ∧ i = .int .i64 k ∧ Hid (v = a ^ k) ∧ p = .int .i64 v ∧ -9223372036854775808 ≤ v ∧ v ≤ 9223372036854775807) (fun _ i => n - (intOf i).toNat)
  case atStart => exact ⟨0, 1, Nat.zero_le _, rfl, hide (Int.pow_zero a).symm, rfl, by decide, by decide⟩
  case round =>
    obtain ⟨k, v, hk, rfl, Hv, rfl, v1, v2⟩ := hrel
    by_cases hlt : k < n
    · have Hn : Hid (v * a = a ^ (k + 1)) := by rw [Hv.out, ← Int.pow_succ]; rfl
      by_cases hm : Fit (v * a)
      · have Hm := hide hm
        clear hm
        go_wp2_with (go_at_call 97; refine (mul64_yes _ _ _ (by omega) (by omega) (by omega) (by omega) Hm.out.1 Hm.out.2).mono ?_; rintro e w' ⟨rfl, rfl⟩)
        go_round
        case rel => exact ⟨k + 1, v * a, by omega, by go_num, Hn.out, rfl, Hm.out.1, Hm.out.2⟩
        case measure => simp [intOf]; omega
      · have Hm : Hid (v * a < -9223372036854775808 ∨ 9223372036854775807 < v * a) := hide (by unfold Fit at hm; omega)
        clear hm
        go_wp2_with (go_at_call 97; refine (mul64_no _ _ _ (by omega) (by omega) (by omega) (by omega) Hm.out).mono ?_; rintro e w' ⟨rfl, rfl⟩)
        go_ret2
        exact ⟨rfl, rfl⟩
    · exfalso
      apply HF.out
      rw [show n = k by omega, ← Hv.out]
      exact ⟨v1, v2⟩

set_option maxHeartbeats 400000 in
theorem pow_neg (a b : Int) (w : World) (hb : b < 0) :
    Calls Tryz.prog 39 #[.int .i64 a, .int .i64 b] w fun e w' => e = .returned (.tuple #[.int .i64 0, .int .i64 13]) ∧ w' = w := by
  go_enter Tryz.func39, Tryz.ntmps39
  go_wp2
  go_ret2
  exact ⟨rfl, rfl⟩
theorem pow_tests (a : Int) (n : Nat) (h0 : n ≠ 0) (z0 : a ≠ 0) (z1 : a ≠ 1) (zm : a ≠ -1) : ((n : Int) == 0) = false ∧ (a == 0) = false ∧ (a == 1) = false ∧ (a == -1) = false := by
  refine ⟨?_, ?_, ?_, ?_⟩ <;> rw [beq_eq_false_iff_ne] <;> omega
set_option maxHeartbeats 1000000 in
theorem pow_yes (a : Int) (n : Nat) (w : World) (ha : -9223372036854775808 ≤ a) (ha' : a ≤ 9223372036854775807) (hn : (n : Int) ≤ 9223372036854775807) (hf : Fit (a ^ n)) :
    Calls Tryz.prog 39 #[.int .i64 a, .int .i64 n] w fun e w' => e = .returned (.tuple #[.int .i64 (a ^ n), .int .i64 0]) ∧ w' = w := by
  have HF := hide hf
  clear hf
  by_cases h0 : n = 0
  · subst h0
    clear hn
    rw [Int.pow_zero]
    show Calls Tryz.prog 39 #[.int .i64 a, .int .i64 0] w _
    go_enter Tryz.func39, Tryz.ntmps39
    go_wp2
    go_ret2
    exact ⟨rfl, rfl⟩
  have t0 : ((n : Int) == 0) = false := by rw [beq_eq_false_iff_ne]; omega
  have t0' : ¬ (n : Int) < 0 := by omega
  by_cases z0 : a = 0
  · subst z0
    have e : (0 : Int) ^ n = 0 := Int.zero_pow h0
    rw [e]
    clear h0 e
    go_enter Tryz.func39, Tryz.ntmps39
    go_wp2
    go_ret2
    exact ⟨rfl, rfl⟩
  by_cases z1 : a = 1
  · subst z1
    rw [Int.one_pow]
    clear h0 z0
    go_enter Tryz.func39, Tryz.ntmps39
    go_wp2
    go_ret2
    exact ⟨rfl, rfl⟩
  by_cases zm : a = -1
  · subst zm
    rw [pow_neg_one]
    clear h0 z0 z1
    have m1 : 0 ≤ (n : Int) % 2 := by omega
    have m2 : (n : Int) % 2 ≤ 1 := by omega
    go_enter Tryz.func39, Tryz.ntmps39
    go_wp2
    go_ret2
    exact ⟨rfl, rfl⟩
  obtain ⟨-, t1, t2, t3⟩ := pow_tests a n h0 z0 z1 zm
  have HG := hide (growing_yes a n w ha ha' hn (by omega) HF.out)
  clear h0 z0 z1 zm HF
  generalize a ^ n = z at *
  go_enter Tryz.func39, Tryz.ntmps39
  go_wp2_with (go_at_call 106; refine HG.out.mono ?_; rintro e w' ⟨rfl, rfl⟩)
  go_ret2
  exact ⟨rfl, rfl⟩
set_option maxHeartbeats 1000000 in
theorem pow_no (a : Int) (n : Nat) (w : World) (ha : -9223372036854775808 ≤ a) (ha' : a ≤ 9223372036854775807) (hn : (n : Int) ≤ 9223372036854775807) (hf : ¬ Fit (a ^ n)) :
    Calls Tryz.prog 39 #[.int .i64 a, .int .i64 n] w fun e w' => e = .returned (.tuple #[.int .i64 0, .int .i64 13]) ∧ w' = w := by
  have h0 : n ≠ 0 := by rintro rfl; exact hf (by rw [Int.pow_zero]; exact ⟨by decide, by decide⟩)
  have z0 : a ≠ 0 := by rintro rfl; exact hf (by rw [Int.zero_pow h0]; exact ⟨by decide, by decide⟩)
  have z1 : a ≠ 1 := by rintro rfl; exact hf (by rw [Int.one_pow]; exact ⟨by decide, by decide⟩)
  have zm : a ≠ -1 := by rintro rfl; exact hf (by rw [pow_neg_one]; exact ⟨by omega, by omega⟩)
  have t0' : ¬ (n : Int) < 0 := by omega
  obtain ⟨t0, t1, t2, t3⟩ := pow_tests a n h0 z0 z1 zm
  have HG := hide (growing_no a n w ha ha' hn (by omega) hf)
  clear h0 z0 z1 zm hf
  go_enter Tryz.func39, Tryz.ntmps39
  go_wp2_with (go_at_call 106; refine HG.out.mono ?_; rintro e w' ⟨rfl, rfl⟩)
  go_ret2
  exact ⟨rfl, rfl⟩
end Go.Proofs.YtgnmkhjilecdhaaGreatDoor
