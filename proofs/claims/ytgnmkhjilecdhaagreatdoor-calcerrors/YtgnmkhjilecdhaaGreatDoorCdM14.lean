/- CalcDivides: numbers; no Go in sight. -/
import Derived.Test.YtgnmkhjilecdhaaGreatDoorCkJ
namespace Go.Proofs.YtgnmkhjilecdhaaGreatDoor
open Go.RowKit Go.Sort
set_option linter.unusedVariables false

theorem tmod_le (a b : Int) : (a.tmod b).natAbs ≤ a.natAbs := by rw [Int.natAbs_tmod]; exact Nat.mod_le _ _
theorem cd_facts {a b : Int} (ha : lo ≤ a) (ha' : a ≤ hi) (hb : lo ≤ b) (hb' : b ≤ hi) (zb : b ≠ 0) :
    wrap64 (a.tdiv b * b) = a - a.tmod b ∧ wrap64 (a - (a - a.tmod b)) = a.tmod b ∧ ((0 < b ∧ 0 ≤ modV (a.tmod b) b ∧ modV (a.tmod b) b < b) ∨ (b < 0 ∧ modV (a.tmod b) b ≤ 0 ∧ b < modV (a.tmod b) b)) ∧
    (a.tmod b = modV (a.tmod b) b ∨ (a.tmod b ≠ modV (a.tmod b) b ∧ wrap64 (modV (a.tmod b) b - b) = a.tmod b)) ∧ (a.tmod b = 0 ∨ (a.tmod b < 0 ∧ a < 0) ∨ (0 < a.tmod b ∧ ¬ a < 0)) := by
  have e := tmod_eq a b
  have s1 := tmod_sign a b
  have d1 := tmod_bd a b zb
  have l1 := tmod_le a b
  unfold lo hi at *
  generalize a.tmod b = r at *
  have e2 : a.tdiv b * b = a - r := by omega
  rw [e2]
  refine ⟨IntWalk.wrap64_in _ ⟨by omega, by omega⟩, ?_, ?_, ?_, by omega⟩
  · rw [show a - (a - r) = r by omega]; exact IntWalk.wrap64_in _ ⟨by omega, by omega⟩
  · unfold modV; split <;> omega
  · unfold modV
    split
    · refine .inr ⟨by omega, ?_⟩
      rw [show r + b - b = r by omega]; exact IntWalk.wrap64_in _ ⟨by omega, by omega⟩
    · exact .inl rfl
theorem gcd_pos {a b : Int} (zb : b ≠ 0) : 1 ≤ Nat.gcd a.natAbs b.natAbs := Nat.gcd_pos_of_pos_right _ (by omega)
theorem tmod_gcd_l (a b : Int) : a.tmod (Nat.gcd a.natAbs b.natAbs : Int) = 0 := by
  apply Int.tmod_eq_zero_of_dvd
  exact Int.ofNat_dvd_left.2 (Nat.gcd_dvd_left _ _)
theorem tmod_gcd_r (a b : Int) : b.tmod (Nat.gcd a.natAbs b.natAbs : Int) = 0 := by
  apply Int.tmod_eq_zero_of_dvd
  exact Int.ofNat_dvd_left.2 (Nat.gcd_dvd_right _ _)
theorem gcd_big {a b : Int} (ha : lo ≤ a) (ha' : a ≤ hi) (hb : lo ≤ b) (hb' : b ≤ hi) (zb : b ≠ 0) (h : 9223372036854775807 < Nat.gcd a.natAbs b.natAbs) : (a = -9223372036854775808 ∨ a = 0) ∧ b = -9223372036854775808 := by
  have h1 := Nat.le_of_dvd (by omega) (Nat.gcd_dvd_right a.natAbs b.natAbs)
  unfold lo hi at *
  have hbl : b = -9223372036854775808 := by omega
  refine ⟨?_, hbl⟩
  by_cases za : a = 0
  · exact .inr za
  · have h2 := Nat.le_of_dvd (by omega) (Nat.gcd_dvd_left a.natAbs b.natAbs)
    exact .inl (by omega)
theorem tdiv_abs (a : Int) (g : Nat) : (a.tdiv (g : Int)).natAbs = a.natAbs / g := by rw [Int.natAbs_tdiv]; rfl
end Go.Proofs.YtgnmkhjilecdhaaGreatDoor
