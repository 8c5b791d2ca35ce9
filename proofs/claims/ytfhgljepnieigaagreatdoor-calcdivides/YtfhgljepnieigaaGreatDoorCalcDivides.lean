/- CalcDivides: quotient and rest; divisor and multiple. Proved of the Go text. -/
import Derived.Test.YtfhgljepnieigaaGreatDoorCd14
import Derived.Test.YtfhgljepnieigaaGreatDoorCd14b
namespace Go.Proofs.YtfhgljepnieigaaGreatDoor
open Go.RowKit Go.Sort
set_option linter.unusedVariables false

theorem bin_div (a b r e : Int) (k i : Int) (t : ByteArray) (HO : CallIs 44 #[.int .i64 a, .int .i64 b] (iiV r e)) (HR : CallIs 43 #[.int .i64 r, .int .i64 e] (vV k i t)) : CallIs 12 #[.int .i64 3, vV 1 a no, vV 1 b no] (vV k i t) :=
  bin_sum3 1 a no 1 b no 1 a no 1 b no (csound_good (good_int _)) (csound_good (good_int _)) (by decide) (by decide) k i t (sum_div a b r e k i t 1 a no 1 b no (num_is _) (num_is _) HO HR)
theorem calcDivides_walk (a : Int) (ha : lo ≤ a) (ha' : a ≤ hi) (b : Int) (hb : lo ≤ b) (hb' : b ≤ hi) : CallB 4 #[.int .i64 a, .int .i64 b] (.bool true) := by
  by_cases zb : b = 0
  · subst zb
    have hq : CallIs 44 #[.int .i64 a, .int .i64 0] (iiV 0 14) := same_is fun w => quo_zero a w
    have hm : CallIs 79 #[.int .i64 a, .int .i64 0] (iiV 0 14) := same_is fun w => mod_zero a w
    have hl : CallIs 85 #[.int .i64 a, .int .i64 0] (iiV 0 0) := by
      by_cases za : a = 0
      · subst za; exact same_is fun w => lcm_left 0 w
      · exact same_is fun w => lcm_right a w za
    exact cd_zero a (hide (f_quo a 0 0 14 _ hq (reck_zero 0))) (hide (f_mod a 0 0 14 _ hm (reck_zero 0))) (hide (f_lcm a 0 0 0 _ hl (reck_ok 0))) (bin_div a 0 0 14 _ _ _ hq (reck_zero 0))
  by_cases hln : a = -9223372036854775808 ∧ b = -1
  · obtain ⟨rfl, rfl⟩ := hln
    have hq : CallIs 44 #[.int .i64 (-9223372036854775808), .int .i64 (-1)] (iiV 0 13) := same_is fun w => quo_over w
    have hm : CallIs 79 #[.int .i64 (-9223372036854775808), .int .i64 (-1)] (iiV 0 0) := mod_is (-9223372036854775808) (-1) (by decide) (by decide) (by decide)
    exact cd_least (hide (f_quo _ _ 0 13 _ hq (reck_no 0 13 rfl rfl))) (hide (f_mod _ _ 0 0 _ hm (reck_ok 0))) (bin_div _ _ 0 13 _ _ _ hq (reck_no 0 13 rfl rfl))
  have hq := quo_is a b ha ha' zb hln
  have hm := mod_is a b hb hb' zb
  obtain ⟨w1, w2, f1, f2, f3⟩ := cd_facts ha ha' hb hb' zb
  have HQ := hide (f_quo a b _ 0 ⟨1, a.tdiv b, no⟩ hq (reck_ok _))
  have HM := hide (f_mod a b _ 0 ⟨1, modV (a.tmod b) b, no⟩ hm (reck_ok _))
  have HD := bin_div a b _ 0 1 (a.tdiv b) no hq (reck_ok _)
  have hb0 : (b == 0) = false := by simp [zb]
  by_cases hg : 9223372036854775807 < Nat.gcd a.natAbs b.natAbs
  · have hG : CallIs 83 #[.int .i64 a, .int .i64 b] (iiV 0 13) := drewN_is fun w => gcd_no a b _ w ha ha' hb hb' rfl hg
    have HG := hide (f_gcd a b 0 13 ⟨4, 2, no⟩ hG (reck_no 0 13 rfl rfl))
    obtain ⟨h1, h2⟩ := gcd_big ha ha' hb hb' zb hg
    have jb : (b == -9223372036854775808) = true := by simp [h2]
    by_cases hal : a = -9223372036854775808
    · exact cd_bigl a b _ _ _ _ HQ HM HD hb0 (hide f1) (hide hln) (hide w1) (hide w2) (hide f2) (hide f3) HG (hide (by simp [hal])) (hide jb)
    · exact cd_bigz a b _ _ _ _ HQ HM HD hb0 (hide f1) (hide hln) (hide w1) (hide w2) (hide f2) (hide f3) HG (hide (by simp [hal])) (hide (by rcases h1 with h | h; exact absurd h hal; simp [h])) (hide jb)
  · have hgp := gcd_pos (a := a) zb
    have hG : CallIs 83 #[.int .i64 a, .int .i64 b] (iiV (Nat.gcd a.natAbs b.natAbs : Int) 0) := drewN_is fun w => gcd_yes a b _ w ha ha' hb hb' rfl (by omega)
    have HG := hide (f_gcd a b _ 0 ⟨1, (Nat.gcd a.natAbs b.natAbs : Int), no⟩ hG (reck_ok _))
    have ja : (a.tmod (Nat.gcd a.natAbs b.natAbs : Int) != 0) = false := by rw [tmod_gcd_l]; rfl
    have jb : (b.tmod (Nat.gcd a.natAbs b.natAbs : Int) != 0) = false := by rw [tmod_gcd_r]; rfl
    have hda := tdiv_abs a (Nat.gcd a.natAbs b.natAbs)
    have hdl : a.natAbs / Nat.gcd a.natAbs b.natAbs ≤ a.natAbs := Nat.div_le_self _ _
    have hdf : lo ≤ a.tdiv (Nat.gcd a.natAbs b.natAbs : Int) ∧ a.tdiv (Nat.gcd a.natAbs b.natAbs : Int) ≤ hi := tdiv_fits a _ ha ha' (by omega) (by omega)
    have HW1 := lwhole_is (a.tdiv (Nat.gcd a.natAbs b.natAbs : Int)) hdf.1 hdf.2
    have HW2 := lwhole_is b hb hb'
    rw [hda, ← show wrap64 (a.tdiv (Nat.gcd a.natAbs b.natAbs : Int)) = a.tdiv (Nat.gcd a.natAbs b.natAbs : Int) from IntWalk.wrap64_in _ ⟨hdf.1, hdf.2⟩] at HW1
    obtain ⟨z, hz⟩ : ∃ z, a.natAbs / Nat.gcd a.natAbs b.natAbs * b.natAbs = z := ⟨_, rfl⟩
    have la : a.natAbs < 18446744073709551616 := by unfold lo hi at *; omega
    have lb : b.natAbs < 18446744073709551616 := by unfold lo hi at *; omega
    have hlcm : (a = 0 ∧ z = 0) ∨ a ≠ 0 := by
      by_cases za : a = 0
      · left; subst za; refine ⟨rfl, ?_⟩; rw [← hz]; simp
      · exact .inr za
    have hg1 : ¬ (Nat.gcd a.natAbs b.natAbs : Int) < 1 := by omega
    by_cases z1 : z ≤ 9223372036854775807
    · have hL : CallIs 85 #[.int .i64 a, .int .i64 b] (iiV (z : Int) 0) := by
        rcases hlcm with ⟨h1, h2⟩ | za
        · subst h1 h2; exact same_is fun w => lcm_left b w
        · exact drewN_is fun w => lcm_yes a b _ z w ha ha' hb hb' za zb rfl hz z1
      have HU : CallIs 14 #[.int .u64 ((a.natAbs / Nat.gcd a.natAbs b.natAbs : Nat) : Int), .int .u64 (b.natAbs : Int)] (.tuple #[.int .u64 0, .int .u64 (z : Int)]) := same_is fun w => mulbits_low _ _ _ _ z w rfl rfl (by omega) lb hz (by omega)
      exact cd_low a b _ _ _ _ HQ HM HD hb0 (hide f1) (hide hln) (hide w1) (hide w2) (hide f2) (hide f3) _ _ _ z HG hg1 ja jb (hide (f_lcm a b _ 0 ⟨1, (z : Int), no⟩ hL (reck_ok _))) HW1 HW2 z1 HU
    · have za : a ≠ 0 := by rcases hlcm with ⟨_, h2⟩ | za; omega; exact za
      by_cases z2 : z < 18446744073709551616
      · have hL : CallIs 85 #[.int .i64 a, .int .i64 b] (iiV 0 13) := drewN_is fun w => lcm_mid a b _ z w ha ha' hb hb' za zb rfl hz (by omega) z2
        have HU : CallIs 14 #[.int .u64 ((a.natAbs / Nat.gcd a.natAbs b.natAbs : Nat) : Int), .int .u64 (b.natAbs : Int)] (.tuple #[.int .u64 0, .int .u64 (z : Int)]) := same_is fun w => mulbits_low _ _ _ _ z w rfl rfl (by omega) lb hz z2
        exact cd_mid a b _ _ _ _ HQ HM HD hb0 (hide f1) (hide hln) (hide w1) (hide w2) (hide f2) (hide f3) _ _ _ z HG hg1 ja jb (hide (f_lcm a b _ 13 ⟨4, 2, no⟩ hL (reck_no 0 13 rfl rfl))) HW1 HW2 (by omega) HU
      · have hL : CallIs 85 #[.int .i64 a, .int .i64 b] (iiV 0 13) := drewN_is fun w => lcm_high a b _ z w ha ha' hb hb' za zb rfl hz (by omega)
        have HU : CallIs 14 #[.int .u64 ((a.natAbs / Nat.gcd a.natAbs b.natAbs : Nat) : Int), .int .u64 (b.natAbs : Int)] (.tuple #[.int .u64 ((z / 18446744073709551616 : Nat) : Int), .int .u64 ((z % 18446744073709551616 : Nat) : Int)]) := same_is fun w => by
          have := Tryz.bits_Mul64 (a.natAbs / Nat.gcd a.natAbs b.natAbs) b.natAbs (by omega) lb w
          rw [hz] at this
          exact this
        have hy : (((z / 18446744073709551616 : Nat) : Int) != 0) = true := by
          rw [bne_iff_ne]
          have : 1 ≤ z / 18446744073709551616 := (Nat.le_div_iff_mul_le (by decide)).2 (by omega)
          omega
        exact cd_high a b _ _ _ _ HQ HM HD hb0 (hide f1) (hide hln) (hide w1) (hide w2) (hide f2) (hide f3) _ _ _ _ _ HG hg1 ja jb (hide (f_lcm a b _ 13 ⟨4, 2, no⟩ hL (reck_no 0 13 rfl rfl))) HW1 HW2 hy HU
end Go.Proofs.YtfhgljepnieigaaGreatDoor
