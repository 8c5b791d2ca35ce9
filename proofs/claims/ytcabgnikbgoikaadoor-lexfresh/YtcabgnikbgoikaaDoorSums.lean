/- Package whole's checked sums (Add, Sub, Mul at int32, int64 and two types of one's own) answer the exact result where it fits, else 0 and false: proved of the Go text for all operands of their kind. -/
import Derived.Test.YtcabgnikbgoikaaDoorRows
import Derived.Test.YtcabgnikbgoikaaDoorMath
import Derived.WalkKit
import Derived.WalkSpells
import Derived.WalkLawsBesides
namespace Go.Proofs.YtcabgnikbgoikaaDoor
open Go.RowKit
set_option linter.unusedVariables false

set_option maxHeartbeats 400000 in
theorem sub64_yes (a b : Int) (w : World) (ha : -9223372036854775808 ≤ a) (ha' : a ≤ 9223372036854775807) (hb : -9223372036854775808 ≤ b) (hb' : b ≤ 9223372036854775807) (h1 : -9223372036854775808 ≤ a - b) (h2 : a - b ≤ 9223372036854775807) :
    Calls Tryd.prog 89 #[.int .i64 a, .int .i64 b] w fun e w' => e = .returned (.tuple #[.int .i64 (a - b), .bool true]) ∧ w' = w := by
  have t : (decide (0 < b) == decide (a - b < a)) = true := by rw [beq_iff_eq, decide_eq_decide]; omega
  go_enter Tryd.func89, Tryd.ntmps89
  go_wp2
  go_ret2
  exact ⟨rfl, rfl⟩
set_option maxHeartbeats 400000 in
theorem sub64_no (a b : Int) (w : World) (ha : -9223372036854775808 ≤ a) (ha' : a ≤ 9223372036854775807) (hb : -9223372036854775808 ≤ b) (hb' : b ≤ 9223372036854775807) (h : a - b < -9223372036854775808 ∨ 9223372036854775807 < a - b) :
    Calls Tryd.prog 89 #[.int .i64 a, .int .i64 b] w fun e w' => e = .returned (.tuple #[.int .i64 0, .bool false]) ∧ w' = w := by
  have t : (decide (0 < b) == decide (wrap64 (a - b) < a)) = false := by
    rw [beq_eq_false_iff_ne, ne_eq, decide_eq_decide]; unfold wrap64; omega
  clear h
  go_enter Tryd.func89, Tryd.ntmps89
  go_wp2
  go_ret2
  exact ⟨rfl, rfl⟩

set_option maxHeartbeats 400000 in
theorem mul64_yes (a b : Int) (w : World) (ha : -9223372036854775808 ≤ a) (ha' : a ≤ 9223372036854775807) (hb : -9223372036854775808 ≤ b) (hb' : b ≤ 9223372036854775807) (h1 : -9223372036854775808 ≤ a * b) (h2 : a * b ≤ 9223372036854775807) :
    Calls Tryd.prog 88 #[.int .i64 a, .int .i64 b] w fun e w' => e = .returned (.tuple #[.int .i64 (a * b), .bool true]) ∧ w' = w := by
  by_cases za : a = 0
  · subst za
    go_enter Tryd.func88, Tryd.ntmps88
    go_wp2
    go_ret2
    exact ⟨ret_two (by omega) rfl, rfl⟩
  by_cases zb : b = 0
  · subst zb
    have ta : (a == 0) = false := by rw [beq_eq_false_iff_ne]; exact za
    go_enter Tryd.func88, Tryd.ntmps88
    go_wp2
    go_ret2
    exact ⟨ret_two (by omega) rfl, rfl⟩
  have ta : (a == 0) = false := by rw [beq_eq_false_iff_ne]; exact za
  have tb : (b == 0) = false := by rw [beq_eq_false_iff_ne]; exact zb
  go_enter Tryd.func88, Tryd.ntmps88
  go_wp2
  · go_ret2
    exact ⟨rfl, rfl⟩
  · exact absurd (mul_sign a b za zb) (by assumption)
set_option maxHeartbeats 400000 in
theorem mul64_no (a b : Int) (w : World) (ha : -9223372036854775808 ≤ a) (ha' : a ≤ 9223372036854775807) (hb : -9223372036854775808 ≤ b) (hb' : b ≤ 9223372036854775807) (h : a * b < -9223372036854775808 ∨ 9223372036854775807 < a * b) :
    Calls Tryd.prog 88 #[.int .i64 a, .int .i64 b] w fun e w' => e = .returned (.tuple #[.int .i64 0, .bool false]) ∧ w' = w := by
  have za : a ≠ 0 := by rintro rfl; omega
  have zb : b ≠ 0 := by rintro rfl; omega
  have ta : (a == 0) = false := by rw [beq_eq_false_iff_ne]; exact za
  have tb : (b == 0) = false := by rw [beq_eq_false_iff_ne]; exact zb
  have H : ¬ (decide (wrap64 (a * b) < 0) = (!(decide (a < 0) == decide (b < 0))) ∧ (wrap64 ((wrap64 (a * b)).tdiv b) != a) = false) := fun h3 => mul_over64 a b ha ha' hb hb' zb h h3.1 h3.2
  have HH : Hid (¬ (decide (wrap64 (a * b) < 0) = (!(decide (a < 0) == decide (b < 0))) ∧ (wrap64 ((wrap64 (a * b)).tdiv b) != a) = false)) := H
  clear H h
  go_enter Tryd.func88, Tryd.ntmps88
  go_wp2
  · go_ret2
    exact ⟨rfl, rfl⟩
  · exact absurd ⟨by assumption, by assumption⟩ HH.out
  · go_ret2
    exact ⟨rfl, rfl⟩

end Go.Proofs.YtcabgnikbgoikaaDoor
