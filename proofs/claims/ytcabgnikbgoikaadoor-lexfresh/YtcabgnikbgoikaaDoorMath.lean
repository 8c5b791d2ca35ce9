/- Plain facts on whole numbers, on which the walks of package whole stand: no Go in sight. -/
import Derived.WalkKit
namespace Go.Proofs.YtcabgnikbgoikaaDoor
open Go.RowKit

theorem ret_two {k : IntKind} {a b : Int} {c d : Bool} (h : a = b) (h' : c = d) : Ending.returned (.tuple #[.int k a, .bool c]) = .returned (.tuple #[.int k b, .bool d]) := by rw [h, h']

theorem ret_ii {k j : IntKind} {a b c d : Int} (h : a = b) (h' : c = d) : Ending.returned (.tuple #[.int k a, .int j c]) = .returned (.tuple #[.int k b, .int j d]) := by rw [h, h']
theorem ret_bool {a b : Bool} (h : a = b) : Ending.returned (.bool a) = .returned (.bool b) := by rw [h]

theorem mul_sign (a b : Int) (ha : a ≠ 0) (hb : b ≠ 0) : (decide (a * b < 0)) = (!(decide (a < 0) == decide (b < 0))) := by
  rw [Bool.eq_iff_iff]
  simp only [decide_eq_true_eq, Bool.not_eq_true', beq_eq_false_iff_ne, ne_eq, decide_eq_decide]
  rcases Int.lt_or_gt_of_ne ha with h1 | h1 <;> rcases Int.lt_or_gt_of_ne hb with h2 | h2
  · have := Int.mul_pos_of_neg_of_neg h1 h2; omega
  · have := Int.mul_neg_of_neg_of_pos h1 h2; omega
  · have := Int.mul_neg_of_pos_of_neg h1 h2; omega
  · have := Int.mul_pos h1 h2; omega

theorem mul_over64 (a b : Int) (ha : -9223372036854775808 ≤ a) (ha' : a ≤ 9223372036854775807) (hb : -9223372036854775808 ≤ b) (hb' : b ≤ 9223372036854775807) (zb : b ≠ 0) (h : a * b < -9223372036854775808 ∨ 9223372036854775807 < a * b)
    (hs : decide (wrap64 (a * b) < 0) = (!(decide (a < 0) == decide (b < 0)))) (hq : (wrap64 ((wrap64 (a * b)).tdiv b) != a) = false) : False := by
  have hq' : wrap64 ((wrap64 (a * b)).tdiv b) = a := by simpa using hq
  clear hq
  have hc : b * a = a * b := Int.mul_comm b a
  generalize a * b = x at *
  obtain ⟨p, hp⟩ : ∃ p, p = wrap64 x := ⟨_, rfl⟩
  rw [← hp] at hs hq'
  have hpb : -9223372036854775808 ≤ p ∧ p ≤ 9223372036854775807 ∧ ∃ k : Int, p = x + k * 18446744073709551616 := by
    rw [hp]; unfold wrap64
    refine ⟨by omega, by omega, -((x + 9223372036854775808) / 18446744073709551616), ?_⟩
    omega
  clear hp
  obtain ⟨p1, p2, k, hk⟩ := hpb
  have e := Int.mul_tdiv_add_tmod p b
  have nq : (p.tdiv b).natAbs = p.natAbs / b.natAbs := Int.natAbs_tdiv p b
  have nr : (p.tmod b).natAbs < b.natAbs := by rw [Int.natAbs_tmod]; exact Nat.mod_lt _ (by omega)
  have hle : p.natAbs / b.natAbs ≤ p.natAbs := Nat.div_le_self _ _
  generalize p.tmod b = r at *
  generalize hqq : p.tdiv b = q at *
  by_cases hf : q ≤ 9223372036854775807
  · have : wrap64 q = q := by unfold wrap64; omega
    rw [this] at hq'
    subst hq'
    rw [hc] at e
    omega
  · have q1 : q = 9223372036854775808 := by omega
    have p3 : p = -9223372036854775808 := by omega
    have a1 : a = -9223372036854775808 := by rw [← hq', q1]; decide +kernel
    have b1 : b = -1 := by
      by_cases hb2 : b.natAbs = 1
      · by_cases hb3 : b = 1
        · subst hb3; simp at hqq; omega
        · omega
      · have : p.natAbs / b.natAbs < p.natAbs := Nat.div_lt_self (by omega) (by omega)
        omega
    rw [p3, a1, b1] at hs
    simp at hs

theorem mul_over32 (a b : Int) (ha : -2147483648 ≤ a) (ha' : a ≤ 2147483647) (hb : -2147483648 ≤ b) (hb' : b ≤ 2147483647) (zb : b ≠ 0) (h : a * b < -2147483648 ∨ 2147483647 < a * b)
    (hs : decide (wrap32 (a * b) < 0) = (!(decide (a < 0) == decide (b < 0)))) (hq : (wrap32 ((wrap32 (a * b)).tdiv b) != a) = false) : False := by
  have hq' : wrap32 ((wrap32 (a * b)).tdiv b) = a := by simpa using hq
  clear hq
  have hc : b * a = a * b := Int.mul_comm b a
  generalize a * b = x at *
  obtain ⟨p, hp⟩ : ∃ p, p = wrap32 x := ⟨_, rfl⟩
  rw [← hp] at hs hq'
  have hpb : -2147483648 ≤ p ∧ p ≤ 2147483647 ∧ ∃ k : Int, p = x + k * 4294967296 := by
    rw [hp]; unfold wrap32
    refine ⟨by omega, by omega, -((x + 2147483648) / 4294967296), ?_⟩
    omega
  clear hp
  obtain ⟨p1, p2, k, hk⟩ := hpb
  have e := Int.mul_tdiv_add_tmod p b
  have nq : (p.tdiv b).natAbs = p.natAbs / b.natAbs := Int.natAbs_tdiv p b
  have nr : (p.tmod b).natAbs < b.natAbs := by rw [Int.natAbs_tmod]; exact Nat.mod_lt _ (by omega)
  have hle : p.natAbs / b.natAbs ≤ p.natAbs := Nat.div_le_self _ _
  generalize p.tmod b = r at *
  generalize hqq : p.tdiv b = q at *
  by_cases hf : q ≤ 2147483647
  · have : wrap32 q = q := by unfold wrap32; omega
    rw [this] at hq'
    subst hq'
    rw [hc] at e
    omega
  · have q1 : q = 2147483648 := by omega
    have p3 : p = -2147483648 := by omega
    have a1 : a = -2147483648 := by rw [← hq', q1]; decide +kernel
    have b1 : b = -1 := by
      by_cases hb2 : b.natAbs = 1
      · by_cases hb3 : b = 1
        · subst hb3; simp at hqq; omega
        · omega
      · have : p.natAbs / b.natAbs < p.natAbs := Nat.div_lt_self (by omega) (by omega)
        omega
    rw [p3, a1, b1] at hs
    simp at hs

end Go.Proofs.YtcabgnikbgoikaaDoor
