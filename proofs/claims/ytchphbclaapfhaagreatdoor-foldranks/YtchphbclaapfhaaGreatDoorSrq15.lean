/- Package fold's MEDIAN: what is told of a sorted list. Proved of the Go text. -/
import Derived.Test.YtchphbclaapfhaaGreatDoorSrp15
namespace Go.Proofs.YtchphbclaapfhaaGreatDoor
open Go.RowKit Go.Sort
open T9 (Blk Chg)
set_option linter.unusedVariables false

theorem half_pos (x : Int) (h : 0 ≤ x) : x.tdiv 2 = x / 2 := Int.tdiv_eq_ediv_of_nonneg h
theorem half_neg (x : Int) (h : x ≤ 0) : x.tdiv 2 = -((-x) / 2) := by
  have : (-(-x)).tdiv 2 = -((-x).tdiv 2) := Int.neg_tdiv (-x) 2
  rw [Int.neg_neg] at this
  rw [this, half_pos (-x) (by omega)]
def mid (l u : Int) : Int := if l + u < -9223372036854775808 ∨ 9223372036854775807 < l + u then (if l < 0 then u + (l - u).tdiv 2 else l + (u - l).tdiv 2) else (l + u).tdiv 2
theorem mid_in (l u : Int) (h : l ≤ u) : l ≤ mid l u ∧ mid l u ≤ u := by
  unfold mid
  split
  · split
    · rw [half_neg _ (by omega)]; omega
    · rw [half_pos _ (by omega)]; omega
  · rcases Int.le_total 0 (l + u) with k | k
    · rw [half_pos _ k]; omega
    · rw [half_neg _ k]; omega
set_option maxHeartbeats 2000000 in
theorem middle_is (l u : Int) (w : World) (l1 : -9223372036854775808 ≤ l) (l2 : l ≤ 9223372036854775807) (u1 : -9223372036854775808 ≤ u) (u2 : u ≤ 9223372036854775807) : Calls Tryz.prog 78 #[.int .i64 l, .int .i64 u] w fun e w' => e = .returned (.int .i64 (mid l u)) ∧ w' = w := by
  by_cases c : l + u < -9223372036854775808 ∨ 9223372036854775807 < l + u
  · have HA := hide (add64_no l u w l1 l2 u1 u2 c)
    by_cases c2 : l < 0
    · have he : mid l u = u + (l - u).tdiv 2 := by unfold mid; rw [if_pos c, if_pos c2]
      rw [he]
      have d1 : -9223372036854775808 ≤ l - u := by omega
      have d2 : l - u ≤ 9223372036854775807 := by omega
      obtain ⟨q, hq⟩ : ∃ q, (l - u).tdiv 2 = q := ⟨_, rfl⟩
      have hz : -9223372036854775808 ≤ q ∧ q ≤ 9223372036854775807 ∧ -9223372036854775808 ≤ u + q ∧ u + q ≤ 9223372036854775807 := by
        rw [← hq]
        rcases Int.le_total 0 (l - u) with k | k
        · rw [half_pos _ k]; omega
        · rw [half_neg _ k]; omega
      obtain ⟨z1, z2, z3, z4⟩ := hz
      rw [hq]
      clear c he
      go_enter Tryz.func78, Tryz.ntmps78
      go_wp2_with (refine HA.out.mono ?_; rintro e w' ⟨rfl, rfl⟩)
      refine bodyPost_ret (by simp [results, Tryz.results78, go_sem]; try rfl) rfl ?_
      exact ⟨rfl, rfl⟩
    · have he : mid l u = l + (u - l).tdiv 2 := by unfold mid; rw [if_pos c, if_neg c2]
      rw [he]
      have d1 : -9223372036854775808 ≤ u - l := by omega
      have d2 : u - l ≤ 9223372036854775807 := by omega
      obtain ⟨q, hq⟩ : ∃ q, (u - l).tdiv 2 = q := ⟨_, rfl⟩
      have hz : -9223372036854775808 ≤ q ∧ q ≤ 9223372036854775807 ∧ -9223372036854775808 ≤ l + q ∧ l + q ≤ 9223372036854775807 := by
        rw [← hq]
        rcases Int.le_total 0 (u - l) with k | k
        · rw [half_pos _ k]; omega
        · rw [half_neg _ k]; omega
      obtain ⟨z1, z2, z3, z4⟩ := hz
      rw [hq]
      clear c he
      go_enter Tryz.func78, Tryz.ntmps78
      go_wp2_with (refine HA.out.mono ?_; rintro e w' ⟨rfl, rfl⟩)
      refine bodyPost_ret (by simp [results, Tryz.results78, go_sem]; try rfl) rfl ?_
      exact ⟨rfl, rfl⟩
  · have HA := hide (add64_yes l u w l1 l2 u1 u2 (by omega) (by omega))
    have he : mid l u = (l + u).tdiv 2 := by unfold mid; rw [if_neg c]
    rw [he]
    obtain ⟨q, hq⟩ : ∃ q, (l + u).tdiv 2 = q := ⟨_, rfl⟩
    have hz : -9223372036854775808 ≤ q ∧ q ≤ 9223372036854775807 := by
      rw [← hq]
      rcases Int.le_total 0 (l + u) with k | k
      · rw [half_pos _ k]; omega
      · rw [half_neg _ k]; omega
    obtain ⟨z1, z2⟩ := hz
    rw [hq]
    clear c he
    go_enter Tryz.func78, Tryz.ntmps78
    go_wp2_with (refine HA.out.mono ?_; rintro e w' ⟨rfl, rfl⟩)
    refine bodyPost_ret (by simp [results, Tryz.results78, go_sem]; try rfl) rfl ?_
    exact ⟨rfl, rfl⟩
theorem middle_c (l u : Int) (l1 : -9223372036854775808 ≤ l) (l2 : l ≤ 9223372036854775807) (u1 : -9223372036854775808 ≤ u) (u2 : u ≤ 9223372036854775807) : CallIs 78 #[.int .i64 l, .int .i64 u] (.int .i64 (mid l u)) := hide fun w => (middle_is l u w l1 l2 u1 u2).mono fun e w' ⟨h1, h2⟩ => ⟨h1, h2 ▸ Below.refl _ _⟩
end Go.Proofs.YtchphbclaapfhaaGreatDoor
