/- The law NumNamed returns true for all numbers of 32 and of 64 bits, and changes nothing that was there. -/
import Derived.Test.YtoedgailgejafaaDoorFrame
namespace Go.Proofs.YtoedgailgejafaaDoor
open Go.RowKit
set_option linter.unusedVariables false

/-- A sum where it fits, else 0; and whether it fits. -/
def sumV32 (z : Int) : Int := if -2147483648 ≤ z ∧ z ≤ 2147483647 then z else 0
def sumB32 (z : Int) : Bool := decide (-2147483648 ≤ z ∧ z ≤ 2147483647)
def sumV64 (z : Int) : Int := if -9223372036854775808 ≤ z ∧ z ≤ 9223372036854775807 then z else 0
def sumB64 (z : Int) : Bool := decide (-9223372036854775808 ≤ z ∧ z ≤ 9223372036854775807)
theorem sumV32_bd (z : Int) : -2147483648 ≤ sumV32 z ∧ sumV32 z ≤ 2147483647 := by unfold sumV32; split <;> omega
theorem sumV64_bd (z : Int) : -9223372036854775808 ≤ sumV64 z ∧ sumV64 z ≤ 9223372036854775807 := by unfold sumV64; split <;> omega
theorem add32_any (a b : Int) (w : World) (ha : -2147483648 ≤ a) (ha' : a ≤ 2147483647) (hb : -2147483648 ≤ b) (hb' : b ≤ 2147483647) :
    Calls Tryd.prog 11 #[.int .i32 a, .int .i32 b] w fun e w' => e = .returned (.tuple #[.int .i32 (sumV32 (a + b)), .bool (sumB32 (a + b))]) ∧ w' = w := by
  by_cases c : -2147483648 ≤ a + b ∧ a + b ≤ 2147483647
  · rw [show sumV32 (a + b) = a + b from if_pos c, show sumB32 (a + b) = true from decide_eq_true c]
    exact add32_yes a b w ha ha' hb hb' c.1 c.2
  · rw [show sumV32 (a + b) = 0 from if_neg c, show sumB32 (a + b) = false from decide_eq_false c]
    exact add32_no a b w ha ha' hb hb' (by omega)
theorem sub32_any (a b : Int) (w : World) (ha : -2147483648 ≤ a) (ha' : a ≤ 2147483647) (hb : -2147483648 ≤ b) (hb' : b ≤ 2147483647) :
    Calls Tryd.prog 12 #[.int .i32 a, .int .i32 b] w fun e w' => e = .returned (.tuple #[.int .i32 (sumV32 (a - b)), .bool (sumB32 (a - b))]) ∧ w' = w := by
  by_cases c : -2147483648 ≤ a - b ∧ a - b ≤ 2147483647
  · rw [show sumV32 (a - b) = a - b from if_pos c, show sumB32 (a - b) = true from decide_eq_true c]
    exact sub32_yes a b w ha ha' hb hb' c.1 c.2
  · rw [show sumV32 (a - b) = 0 from if_neg c, show sumB32 (a - b) = false from decide_eq_false c]
    exact sub32_no a b w ha ha' hb hb' (by omega)
theorem mul32_any (a b : Int) (w : World) (ha : -2147483648 ≤ a) (ha' : a ≤ 2147483647) (hb : -2147483648 ≤ b) (hb' : b ≤ 2147483647) :
    Calls Tryd.prog 13 #[.int .i32 a, .int .i32 b] w fun e w' => e = .returned (.tuple #[.int .i32 (sumV32 (a * b)), .bool (sumB32 (a * b))]) ∧ w' = w := by
  by_cases c : -2147483648 ≤ a * b ∧ a * b ≤ 2147483647
  · rw [show sumV32 (a * b) = a * b from if_pos c, show sumB32 (a * b) = true from decide_eq_true c]
    exact mul32_yes a b w ha ha' hb hb' c.1 c.2
  · rw [show sumV32 (a * b) = 0 from if_neg c, show sumB32 (a * b) = false from decide_eq_false c]
    exact mul32_no a b w ha ha' hb hb' (by omega)
theorem addTiny_any (a b : Int) (w : World) (ha : -2147483648 ≤ a) (ha' : a ≤ 2147483647) (hb : -2147483648 ≤ b) (hb' : b ≤ 2147483647) :
    Calls Tryd.prog 15 #[.int .i32 a, .int .i32 b] w fun e w' => e = .returned (.tuple #[.int .i32 (sumV32 (a + b)), .bool (sumB32 (a + b))]) ∧ w' = w := by
  by_cases c : -2147483648 ≤ a + b ∧ a + b ≤ 2147483647
  · rw [show sumV32 (a + b) = a + b from if_pos c, show sumB32 (a + b) = true from decide_eq_true c]
    exact addTiny_yes a b w ha ha' hb hb' c.1 c.2
  · rw [show sumV32 (a + b) = 0 from if_neg c, show sumB32 (a + b) = false from decide_eq_false c]
    exact addTiny_no a b w ha ha' hb hb' (by omega)
theorem subTiny_any (a b : Int) (w : World) (ha : -2147483648 ≤ a) (ha' : a ≤ 2147483647) (hb : -2147483648 ≤ b) (hb' : b ≤ 2147483647) :
    Calls Tryd.prog 16 #[.int .i32 a, .int .i32 b] w fun e w' => e = .returned (.tuple #[.int .i32 (sumV32 (a - b)), .bool (sumB32 (a - b))]) ∧ w' = w := by
  by_cases c : -2147483648 ≤ a - b ∧ a - b ≤ 2147483647
  · rw [show sumV32 (a - b) = a - b from if_pos c, show sumB32 (a - b) = true from decide_eq_true c]
    exact subTiny_yes a b w ha ha' hb hb' c.1 c.2
  · rw [show sumV32 (a - b) = 0 from if_neg c, show sumB32 (a - b) = false from decide_eq_false c]
    exact subTiny_no a b w ha ha' hb hb' (by omega)
theorem mulTiny_any (a b : Int) (w : World) (ha : -2147483648 ≤ a) (ha' : a ≤ 2147483647) (hb : -2147483648 ≤ b) (hb' : b ≤ 2147483647) :
    Calls Tryd.prog 17 #[.int .i32 a, .int .i32 b] w fun e w' => e = .returned (.tuple #[.int .i32 (sumV32 (a * b)), .bool (sumB32 (a * b))]) ∧ w' = w := by
  by_cases c : -2147483648 ≤ a * b ∧ a * b ≤ 2147483647
  · rw [show sumV32 (a * b) = a * b from if_pos c, show sumB32 (a * b) = true from decide_eq_true c]
    exact mulTiny_yes a b w ha ha' hb hb' c.1 c.2
  · rw [show sumV32 (a * b) = 0 from if_neg c, show sumB32 (a * b) = false from decide_eq_false c]
    exact mulTiny_no a b w ha ha' hb hb' (by omega)
theorem add64_any (a b : Int) (w : World) (ha : -9223372036854775808 ≤ a) (ha' : a ≤ 9223372036854775807) (hb : -9223372036854775808 ≤ b) (hb' : b ≤ 9223372036854775807) :
    Calls Tryd.prog 19 #[.int .i64 a, .int .i64 b] w fun e w' => e = .returned (.tuple #[.int .i64 (sumV64 (a + b)), .bool (sumB64 (a + b))]) ∧ w' = w := by
  by_cases c : -9223372036854775808 ≤ a + b ∧ a + b ≤ 9223372036854775807
  · rw [show sumV64 (a + b) = a + b from if_pos c, show sumB64 (a + b) = true from decide_eq_true c]
    exact add64_yes a b w ha ha' hb hb' c.1 c.2
  · rw [show sumV64 (a + b) = 0 from if_neg c, show sumB64 (a + b) = false from decide_eq_false c]
    exact add64_no a b w ha ha' hb hb' (by omega)
theorem sub64_any (a b : Int) (w : World) (ha : -9223372036854775808 ≤ a) (ha' : a ≤ 9223372036854775807) (hb : -9223372036854775808 ≤ b) (hb' : b ≤ 9223372036854775807) :
    Calls Tryd.prog 21 #[.int .i64 a, .int .i64 b] w fun e w' => e = .returned (.tuple #[.int .i64 (sumV64 (a - b)), .bool (sumB64 (a - b))]) ∧ w' = w := by
  by_cases c : -9223372036854775808 ≤ a - b ∧ a - b ≤ 9223372036854775807
  · rw [show sumV64 (a - b) = a - b from if_pos c, show sumB64 (a - b) = true from decide_eq_true c]
    exact sub64_yes a b w ha ha' hb hb' c.1 c.2
  · rw [show sumV64 (a - b) = 0 from if_neg c, show sumB64 (a - b) = false from decide_eq_false c]
    exact sub64_no a b w ha ha' hb hb' (by omega)
theorem mul64_any (a b : Int) (w : World) (ha : -9223372036854775808 ≤ a) (ha' : a ≤ 9223372036854775807) (hb : -9223372036854775808 ≤ b) (hb' : b ≤ 9223372036854775807) :
    Calls Tryd.prog 23 #[.int .i64 a, .int .i64 b] w fun e w' => e = .returned (.tuple #[.int .i64 (sumV64 (a * b)), .bool (sumB64 (a * b))]) ∧ w' = w := by
  by_cases c : -9223372036854775808 ≤ a * b ∧ a * b ≤ 9223372036854775807
  · rw [show sumV64 (a * b) = a * b from if_pos c, show sumB64 (a * b) = true from decide_eq_true c]
    exact mul64_yes a b w ha ha' hb hb' c.1 c.2
  · rw [show sumV64 (a * b) = 0 from if_neg c, show sumB64 (a * b) = false from decide_eq_false c]
    exact mul64_no a b w ha ha' hb hb' (by omega)
theorem addGreat_any (a b : Int) (w : World) (ha : -9223372036854775808 ≤ a) (ha' : a ≤ 9223372036854775807) (hb : -9223372036854775808 ≤ b) (hb' : b ≤ 9223372036854775807) :
    Calls Tryd.prog 18 #[.int .i64 a, .int .i64 b] w fun e w' => e = .returned (.tuple #[.int .i64 (sumV64 (a + b)), .bool (sumB64 (a + b))]) ∧ w' = w := by
  by_cases c : -9223372036854775808 ≤ a + b ∧ a + b ≤ 9223372036854775807
  · rw [show sumV64 (a + b) = a + b from if_pos c, show sumB64 (a + b) = true from decide_eq_true c]
    exact addGreat_yes a b w ha ha' hb hb' c.1 c.2
  · rw [show sumV64 (a + b) = 0 from if_neg c, show sumB64 (a + b) = false from decide_eq_false c]
    exact addGreat_no a b w ha ha' hb hb' (by omega)
theorem subGreat_any (a b : Int) (w : World) (ha : -9223372036854775808 ≤ a) (ha' : a ≤ 9223372036854775807) (hb : -9223372036854775808 ≤ b) (hb' : b ≤ 9223372036854775807) :
    Calls Tryd.prog 20 #[.int .i64 a, .int .i64 b] w fun e w' => e = .returned (.tuple #[.int .i64 (sumV64 (a - b)), .bool (sumB64 (a - b))]) ∧ w' = w := by
  by_cases c : -9223372036854775808 ≤ a - b ∧ a - b ≤ 9223372036854775807
  · rw [show sumV64 (a - b) = a - b from if_pos c, show sumB64 (a - b) = true from decide_eq_true c]
    exact subGreat_yes a b w ha ha' hb hb' c.1 c.2
  · rw [show sumV64 (a - b) = 0 from if_neg c, show sumB64 (a - b) = false from decide_eq_false c]
    exact subGreat_no a b w ha ha' hb hb' (by omega)
theorem mulGreat_any (a b : Int) (w : World) (ha : -9223372036854775808 ≤ a) (ha' : a ≤ 9223372036854775807) (hb : -9223372036854775808 ≤ b) (hb' : b ≤ 9223372036854775807) :
    Calls Tryd.prog 22 #[.int .i64 a, .int .i64 b] w fun e w' => e = .returned (.tuple #[.int .i64 (sumV64 (a * b)), .bool (sumB64 (a * b))]) ∧ w' = w := by
  by_cases c : -9223372036854775808 ≤ a * b ∧ a * b ≤ 9223372036854775807
  · rw [show sumV64 (a * b) = a * b from if_pos c, show sumB64 (a * b) = true from decide_eq_true c]
    exact mulGreat_yes a b w ha ha' hb hb' c.1 c.2
  · rw [show sumV64 (a * b) = 0 from if_neg c, show sumB64 (a * b) = false from decide_eq_false c]
    exact mulGreat_no a b w ha ha' hb hb' (by omega)

set_option maxHeartbeats 2000000 in
theorem numNamed_walk (x y a b : Int) (w : World) (hx : -2147483648 ≤ x) (hx' : x ≤ 2147483647) (hy : -2147483648 ≤ y) (hy' : y ≤ 2147483647) (ha : -9223372036854775808 ≤ a) (ha' : a ≤ 9223372036854775807) (hb : -9223372036854775808 ≤ b) (hb' : b ≤ 9223372036854775807) (ht : Tab w) :
    Calls Tryd.prog 5 #[.int .i32 x, .int .i32 y, .int .i64 a, .int .i64 b] w fun e w' => e = .returned (.bool true) ∧ Below w.heap.size w w' := by
  have HB := hide (begun_any w ht)
  clear ht
  obtain ⟨v0, v0'⟩ := sumV32_bd (x + y)
  obtain ⟨v1, v1'⟩ := sumV32_bd (x - y)
  obtain ⟨v2, v2'⟩ := sumV32_bd (x * y)
  obtain ⟨v3, v3'⟩ := sumV64_bd (a + b)
  obtain ⟨v4, v4'⟩ := sumV64_bd (a - b)
  obtain ⟨v5, v5'⟩ := sumV64_bd (a * b)
  go_enter Tryd.func5, Tryd.ntmps5
  try simp only [List.append]
  go_wp2_with (first
    | (go_at_call 9; refine HB.out.mono ?_; rintro e w' ⟨rfl, hw⟩)
    | (go_at_call 11; refine (add32_any x y _ (by omega) (by omega) (by omega) (by omega)).mono ?_; rintro e w' ⟨rfl, rfl⟩)
    | (go_at_call 12; refine (sub32_any x y _ (by omega) (by omega) (by omega) (by omega)).mono ?_; rintro e w' ⟨rfl, rfl⟩)
    | (go_at_call 13; refine (mul32_any x y _ (by omega) (by omega) (by omega) (by omega)).mono ?_; rintro e w' ⟨rfl, rfl⟩)
    | (go_at_call 15; refine (addTiny_any x y _ (by omega) (by omega) (by omega) (by omega)).mono ?_; rintro e w' ⟨rfl, rfl⟩)
    | (go_at_call 16; refine (subTiny_any x y _ (by omega) (by omega) (by omega) (by omega)).mono ?_; rintro e w' ⟨rfl, rfl⟩)
    | (go_at_call 17; refine (mulTiny_any x y _ (by omega) (by omega) (by omega) (by omega)).mono ?_; rintro e w' ⟨rfl, rfl⟩)
    | (go_at_call 19; refine (add64_any a b _ (by omega) (by omega) (by omega) (by omega)).mono ?_; rintro e w' ⟨rfl, rfl⟩)
    | (go_at_call 21; refine (sub64_any a b _ (by omega) (by omega) (by omega) (by omega)).mono ?_; rintro e w' ⟨rfl, rfl⟩)
    | (go_at_call 23; refine (mul64_any a b _ (by omega) (by omega) (by omega) (by omega)).mono ?_; rintro e w' ⟨rfl, rfl⟩)
    | (go_at_call 18; refine (addGreat_any a b _ (by omega) (by omega) (by omega) (by omega)).mono ?_; rintro e w' ⟨rfl, rfl⟩)
    | (go_at_call 20; refine (subGreat_any a b _ (by omega) (by omega) (by omega) (by omega)).mono ?_; rintro e w' ⟨rfl, rfl⟩)
    | (go_at_call 22; refine (mulGreat_any a b _ (by omega) (by omega) (by omega) (by omega)).mono ?_; rintro e w' ⟨rfl, rfl⟩))
  go_ret
  exact ⟨rfl, hw⟩
end Go.Proofs.YtoedgailgejafaaDoor
