/- The law NumDivides returns true for all numbers of 64 bits, and changes nothing that was there. -/
import Derived.Test.YtoedgailgejafaaDoorFrame
import Derived.Test.YtoedgailgejafaaDoorQuoMod
namespace Go.Proofs.YtoedgailgejafaaDoor
open Go.RowKit
set_option linter.unusedVariables false

theorem quo_sign (x y q r : Int) (e : x - q * y = r) (hs : (0 ≤ x → 0 ≤ r) ∧ (x ≤ 0 → r ≤ 0)) (hl : r.natAbs < y.natAbs) : q = 0 ∨ (q < 0 ∧ ¬ (x < 0 ↔ y < 0)) ∨ (0 < q ∧ (x < 0 ↔ y < 0)) := by
  rcases Int.lt_trichotomy q 0 with h | h | h
  · rcases Int.lt_trichotomy y 0 with h2 | h2 | h2
    · have := Int.mul_pos_of_neg_of_neg h h2
      have h3 : y.natAbs ≤ (q * y).natAbs := by rw [Int.natAbs_mul]; exact Nat.le_mul_of_pos_left _ (by omega)
      omega
    · omega
    · have := Int.mul_neg_of_neg_of_pos h h2
      have h3 : y.natAbs ≤ (q * y).natAbs := by rw [Int.natAbs_mul]; exact Nat.le_mul_of_pos_left _ (by omega)
      omega
  · exact .inl h
  · rcases Int.lt_trichotomy y 0 with h2 | h2 | h2
    · have := Int.mul_neg_of_pos_of_neg h h2
      have h3 : y.natAbs ≤ (q * y).natAbs := by rw [Int.natAbs_mul]; exact Nat.le_mul_of_pos_left _ (by omega)
      omega
    · omega
    · have := Int.mul_pos h h2
      have h3 : y.natAbs ≤ (q * y).natAbs := by rw [Int.natAbs_mul]; exact Nat.le_mul_of_pos_left _ (by omega)
      omega

set_option maxRecDepth 100000 in
set_option maxHeartbeats 1000000 in
theorem div_zero (x : Int) (w : World) (ht : Tab w) :
    Calls Tryd.prog 6 #[.int .i64 x, .int .i64 0] w fun e w' => e = .returned (.bool true) ∧ Below w.heap.size w w' := by
  have HB := hide (begun_any w ht)
  clear ht
  go_enter Tryd.func6, Tryd.ntmps6
  try simp only [List.append]
  go_wp2_with (first
    | (go_at_call 9; refine HB.out.mono ?_; rintro e w' ⟨rfl, hw⟩)
    | (go_at_call 24; refine (quo_zero _ _).mono ?_; rintro e w' ⟨rfl, rfl⟩)
    | (go_at_call 25; refine (mod_zero _ _).mono ?_; rintro e w' ⟨rfl, rfl⟩))
  go_ret
  exact ⟨rfl, hw⟩
theorem mod_least (w : World) : Calls Tryd.prog 25 #[.int .i64 (-9223372036854775808), .int .i64 (-1)] w fun e w' => e = .returned (.tuple #[.int .i64 0, .int .i64 0]) ∧ w' = w := by
  have h := mod_ok (-9223372036854775808) (-1) 0 w (by decide) (by decide) (by decide) (by decide)
  rwa [show modV 0 (-1) = 0 from rfl] at h
set_option maxRecDepth 100000 in
set_option maxHeartbeats 1000000 in
theorem div_least (w : World) (ht : Tab w) :
    Calls Tryd.prog 6 #[.int .i64 (-9223372036854775808), .int .i64 (-1)] w fun e w' => e = .returned (.bool true) ∧ Below w.heap.size w w' := by
  have HB := hide (begun_any w ht)
  clear ht
  go_enter Tryd.func6, Tryd.ntmps6
  try simp only [List.append]
  go_wp2_with (first
    | (go_at_call 9; refine HB.out.mono ?_; rintro e w' ⟨rfl, hw⟩)
    | (go_at_call 24; refine (quo_over _).mono ?_; rintro e w' ⟨rfl, rfl⟩)
    | (go_at_call 25; refine (mod_least _).mono ?_; rintro e w' ⟨rfl, rfl⟩))
  go_ret
  exact ⟨rfl, hw⟩

set_option maxRecDepth 100000 in
set_option maxHeartbeats 1000000 in
theorem div_least_least_11 (x y q r m : Int) (w : World) (ht : Tab w) (hx : -9223372036854775808 ≤ x) (hx' : x ≤ 9223372036854775807) (hy : -9223372036854775808 ≤ y) (hy' : y ≤ 9223372036854775807) (zn : ¬ (x = -9223372036854775808 ∧ y = -1))
    (HQ : Hid (∀ w, Calls Tryd.prog 24 #[.int .i64 x, .int .i64 y] w fun e w' => e = .returned (.tuple #[.int .i64 q, .int .i64 0]) ∧ w' = w))
    (HM : Hid (∀ w, Calls Tryd.prog 25 #[.int .i64 x, .int .i64 y] w fun e w' => e = .returned (.tuple #[.int .i64 m, .int .i64 0]) ∧ w' = w))
    (hr : x - q * y = r) (p1 : -9223372036854775808 ≤ q * y) (p2 : q * y ≤ 9223372036854775807) (hl : r.natAbs < y.natAbs) (cx : x = -9223372036854775808) (cy : y = -9223372036854775808) (cr : r = 0) (cq : q = 0) (cm : m = r) :
    Calls Tryd.prog 6 #[.int .i64 x, .int .i64 y] w fun e w' => e = .returned (.bool true) ∧ Below w.heap.size w w' := by
  have HB := hide (begun_any w ht)
  clear ht
  have r1 : -9223372036854775808 ≤ r := by omega
  have r2 : r ≤ 9223372036854775807 := by omega
  have f0 : (y == 0) = false := by simp <;> omega
  have f1 : decide (y < 0) = true := by simp <;> omega
  have f2 : decide (0 < y) = false := by simp <;> omega
  have f3 : (y == -9223372036854775808) = true := by simp <;> omega
  have f4 : decide (x < 0) = true := by simp <;> omega
  have f5 : (x == -9223372036854775808) = true := by simp <;> omega
  have f6 : (y == -1) = false := by simp <;> omega
  have f7 : (r != 0) = false := by simp <;> omega
  have f8 : decide (r < 0) = false := by simp <;> omega
  have f9 : (q != 0) = false := by simp <;> omega
  have f10 : decide (q < 0) = false := by simp <;> omega
  have f11 : (m != 0) = false := by simp <;> omega
  have f12 : decide (m < 0) = false := by simp <;> omega
  have f13 : decide (m ≤ y) = false := by simp <;> omega
  have f14 : (r == m) = true := by simp <;> omega
  have f15 : decide (y < r) = true := by simp <;> omega
  clear cx cy cr cq cm hl zn
  go_enter Tryd.func6, Tryd.ntmps6
  try simp only [List.append]
  go_wp2_with (first
    | (go_at_call 9; refine HB.out.mono ?_; rintro e w' ⟨rfl, hw⟩)
    | (go_at_call 24; refine (HQ.out _).mono ?_; rintro e w' ⟨rfl, rfl⟩)
    | (go_at_call 25; refine (HM.out _).mono ?_; rintro e w' ⟨rfl, rfl⟩))
  go_ret
  exact ⟨rfl, hw⟩

set_option maxRecDepth 100000 in
set_option maxHeartbeats 1000000 in
theorem div_least_least_10 (x y q r m : Int) (w : World) (ht : Tab w) (hx : -9223372036854775808 ≤ x) (hx' : x ≤ 9223372036854775807) (hy : -9223372036854775808 ≤ y) (hy' : y ≤ 9223372036854775807) (zn : ¬ (x = -9223372036854775808 ∧ y = -1))
    (HQ : Hid (∀ w, Calls Tryd.prog 24 #[.int .i64 x, .int .i64 y] w fun e w' => e = .returned (.tuple #[.int .i64 q, .int .i64 0]) ∧ w' = w))
    (HM : Hid (∀ w, Calls Tryd.prog 25 #[.int .i64 x, .int .i64 y] w fun e w' => e = .returned (.tuple #[.int .i64 m, .int .i64 0]) ∧ w' = w))
    (hr : x - q * y = r) (p1 : -9223372036854775808 ≤ q * y) (p2 : q * y ≤ 9223372036854775807) (hl : r.natAbs < y.natAbs) (cx : x = -9223372036854775808) (cy : y = -9223372036854775808) (cr : r = 0) (cq : 0 < q) (cm : m = r) :
    Calls Tryd.prog 6 #[.int .i64 x, .int .i64 y] w fun e w' => e = .returned (.bool true) ∧ Below w.heap.size w w' := by
  have HB := hide (begun_any w ht)
  clear ht
  have r1 : -9223372036854775808 ≤ r := by omega
  have r2 : r ≤ 9223372036854775807 := by omega
  have f0 : (y == 0) = false := by simp <;> omega
  have f1 : decide (y < 0) = true := by simp <;> omega
  have f2 : decide (0 < y) = false := by simp <;> omega
  have f3 : (y == -9223372036854775808) = true := by simp <;> omega
  have f4 : decide (x < 0) = true := by simp <;> omega
  have f5 : (x == -9223372036854775808) = true := by simp <;> omega
  have f6 : (y == -1) = false := by simp <;> omega
  have f7 : (r != 0) = false := by simp <;> omega
  have f8 : decide (r < 0) = false := by simp <;> omega
  have f9 : (q != 0) = true := by simp <;> omega
  have f10 : decide (q < 0) = false := by simp <;> omega
  have f11 : (m != 0) = false := by simp <;> omega
  have f12 : decide (m < 0) = false := by simp <;> omega
  have f13 : decide (m ≤ y) = false := by simp <;> omega
  have f14 : (r == m) = true := by simp <;> omega
  have f15 : decide (y < r) = true := by simp <;> omega
  clear cx cy cr cq cm hl zn
  go_enter Tryd.func6, Tryd.ntmps6
  try simp only [List.append]
  go_wp2_with (first
    | (go_at_call 9; refine HB.out.mono ?_; rintro e w' ⟨rfl, hw⟩)
    | (go_at_call 24; refine (HQ.out _).mono ?_; rintro e w' ⟨rfl, rfl⟩)
    | (go_at_call 25; refine (HM.out _).mono ?_; rintro e w' ⟨rfl, rfl⟩))
  go_ret
  exact ⟨rfl, hw⟩

set_option maxRecDepth 100000 in
set_option maxHeartbeats 1000000 in
theorem div_least_least_01 (x y q r m : Int) (w : World) (ht : Tab w) (hx : -9223372036854775808 ≤ x) (hx' : x ≤ 9223372036854775807) (hy : -9223372036854775808 ≤ y) (hy' : y ≤ 9223372036854775807) (zn : ¬ (x = -9223372036854775808 ∧ y = -1))
    (HQ : Hid (∀ w, Calls Tryd.prog 24 #[.int .i64 x, .int .i64 y] w fun e w' => e = .returned (.tuple #[.int .i64 q, .int .i64 0]) ∧ w' = w))
    (HM : Hid (∀ w, Calls Tryd.prog 25 #[.int .i64 x, .int .i64 y] w fun e w' => e = .returned (.tuple #[.int .i64 m, .int .i64 0]) ∧ w' = w))
    (hr : x - q * y = r) (p1 : -9223372036854775808 ≤ q * y) (p2 : q * y ≤ 9223372036854775807) (hl : r.natAbs < y.natAbs) (cx : x = -9223372036854775808) (cy : y = -9223372036854775808) (cr : r < 0) (cq : q = 0) (cm : m = r) :
    Calls Tryd.prog 6 #[.int .i64 x, .int .i64 y] w fun e w' => e = .returned (.bool true) ∧ Below w.heap.size w w' := by
  have HB := hide (begun_any w ht)
  clear ht
  have r1 : -9223372036854775808 ≤ r := by omega
  have r2 : r ≤ 9223372036854775807 := by omega
  have f0 : (y == 0) = false := by simp <;> omega
  have f1 : decide (y < 0) = true := by simp <;> omega
  have f2 : decide (0 < y) = false := by simp <;> omega
  have f3 : (y == -9223372036854775808) = true := by simp <;> omega
  have f4 : decide (x < 0) = true := by simp <;> omega
  have f5 : (x == -9223372036854775808) = true := by simp <;> omega
  have f6 : (y == -1) = false := by simp <;> omega
  have f7 : (r != 0) = true := by simp <;> omega
  have f8 : decide (r < 0) = true := by simp <;> omega
  have f9 : (q != 0) = false := by simp <;> omega
  have f10 : decide (q < 0) = false := by simp <;> omega
  have f11 : (m != 0) = true := by simp <;> omega
  have f12 : decide (m < 0) = true := by simp <;> omega
  have f13 : decide (m ≤ y) = false := by simp <;> omega
  have f14 : (r == m) = true := by simp <;> omega
  have f15 : decide (y < r) = true := by simp <;> omega
  clear cx cy cr cq cm hl zn
  go_enter Tryd.func6, Tryd.ntmps6
  try simp only [List.append]
  go_wp2_with (first
    | (go_at_call 9; refine HB.out.mono ?_; rintro e w' ⟨rfl, hw⟩)
    | (go_at_call 24; refine (HQ.out _).mono ?_; rintro e w' ⟨rfl, rfl⟩)
    | (go_at_call 25; refine (HM.out _).mono ?_; rintro e w' ⟨rfl, rfl⟩))
  go_ret
  exact ⟨rfl, hw⟩

set_option maxRecDepth 100000 in
set_option maxHeartbeats 1000000 in
theorem div_least_least_00 (x y q r m : Int) (w : World) (ht : Tab w) (hx : -9223372036854775808 ≤ x) (hx' : x ≤ 9223372036854775807) (hy : -9223372036854775808 ≤ y) (hy' : y ≤ 9223372036854775807) (zn : ¬ (x = -9223372036854775808 ∧ y = -1))
    (HQ : Hid (∀ w, Calls Tryd.prog 24 #[.int .i64 x, .int .i64 y] w fun e w' => e = .returned (.tuple #[.int .i64 q, .int .i64 0]) ∧ w' = w))
    (HM : Hid (∀ w, Calls Tryd.prog 25 #[.int .i64 x, .int .i64 y] w fun e w' => e = .returned (.tuple #[.int .i64 m, .int .i64 0]) ∧ w' = w))
    (hr : x - q * y = r) (p1 : -9223372036854775808 ≤ q * y) (p2 : q * y ≤ 9223372036854775807) (hl : r.natAbs < y.natAbs) (cx : x = -9223372036854775808) (cy : y = -9223372036854775808) (cr : r < 0) (cq : 0 < q) (cm : m = r) :
    Calls Tryd.prog 6 #[.int .i64 x, .int .i64 y] w fun e w' => e = .returned (.bool true) ∧ Below w.heap.size w w' := by
  have HB := hide (begun_any w ht)
  clear ht
  have r1 : -9223372036854775808 ≤ r := by omega
  have r2 : r ≤ 9223372036854775807 := by omega
  have f0 : (y == 0) = false := by simp <;> omega
  have f1 : decide (y < 0) = true := by simp <;> omega
  have f2 : decide (0 < y) = false := by simp <;> omega
  have f3 : (y == -9223372036854775808) = true := by simp <;> omega
  have f4 : decide (x < 0) = true := by simp <;> omega
  have f5 : (x == -9223372036854775808) = true := by simp <;> omega
  have f6 : (y == -1) = false := by simp <;> omega
  have f7 : (r != 0) = true := by simp <;> omega
  have f8 : decide (r < 0) = true := by simp <;> omega
  have f9 : (q != 0) = true := by simp <;> omega
  have f10 : decide (q < 0) = false := by simp <;> omega
  have f11 : (m != 0) = true := by simp <;> omega
  have f12 : decide (m < 0) = true := by simp <;> omega
  have f13 : decide (m ≤ y) = false := by simp <;> omega
  have f14 : (r == m) = true := by simp <;> omega
  have f15 : decide (y < r) = true := by simp <;> omega
  clear cx cy cr cq cm hl zn
  go_enter Tryd.func6, Tryd.ntmps6
  try simp only [List.append]
  go_wp2_with (first
    | (go_at_call 9; refine HB.out.mono ?_; rintro e w' ⟨rfl, hw⟩)
    | (go_at_call 24; refine (HQ.out _).mono ?_; rintro e w' ⟨rfl, rfl⟩)
    | (go_at_call 25; refine (HM.out _).mono ?_; rintro e w' ⟨rfl, rfl⟩))
  go_ret
  exact ⟨rfl, hw⟩

set_option maxRecDepth 100000 in
set_option maxHeartbeats 1000000 in
theorem div_least_neg_11 (x y q r m : Int) (w : World) (ht : Tab w) (hx : -9223372036854775808 ≤ x) (hx' : x ≤ 9223372036854775807) (hy : -9223372036854775808 ≤ y) (hy' : y ≤ 9223372036854775807) (zn : ¬ (x = -9223372036854775808 ∧ y = -1))
    (HQ : Hid (∀ w, Calls Tryd.prog 24 #[.int .i64 x, .int .i64 y] w fun e w' => e = .returned (.tuple #[.int .i64 q, .int .i64 0]) ∧ w' = w))
    (HM : Hid (∀ w, Calls Tryd.prog 25 #[.int .i64 x, .int .i64 y] w fun e w' => e = .returned (.tuple #[.int .i64 m, .int .i64 0]) ∧ w' = w))
    (hr : x - q * y = r) (p1 : -9223372036854775808 ≤ q * y) (p2 : q * y ≤ 9223372036854775807) (hl : r.natAbs < y.natAbs) (cx : x = -9223372036854775808) (cy : -9223372036854775808 < y) (cy' : y < 0) (cr : r = 0) (cq : q = 0) (cm : m = r) :
    Calls Tryd.prog 6 #[.int .i64 x, .int .i64 y] w fun e w' => e = .returned (.bool true) ∧ Below w.heap.size w w' := by
  have HB := hide (begun_any w ht)
  clear ht
  have r1 : -9223372036854775808 ≤ r := by omega
  have r2 : r ≤ 9223372036854775807 := by omega
  have y1 : -9223372036854775808 ≤ -y := by omega
  have y2 : -y ≤ 9223372036854775807 := by omega
  have f0 : (y == 0) = false := by simp <;> omega
  have f1 : decide (y < 0) = true := by simp <;> omega
  have f2 : decide (0 < y) = false := by simp <;> omega
  have f3 : (y == -9223372036854775808) = false := by simp <;> omega
  have f4 : decide (x < 0) = true := by simp <;> omega
  have f5 : (x == -9223372036854775808) = true := by simp <;> omega
  have f6 : (y == -1) = false := by simp <;> omega
  have f7 : (r != 0) = false := by simp <;> omega
  have f8 : decide (r < 0) = false := by simp <;> omega
  have f9 : (q != 0) = false := by simp <;> omega
  have f10 : decide (q < 0) = false := by simp <;> omega
  have f11 : (m != 0) = false := by simp <;> omega
  have f12 : decide (m < 0) = false := by simp <;> omega
  have f13 : decide (m ≤ y) = false := by simp <;> omega
  have f14 : (r == m) = true := by simp <;> omega
  have f15 : decide (y < r) = true := by simp <;> omega
  have f16 : decide (r < -y) = true := by simp <;> omega
  clear cx cy cy' cr cq cm hl zn
  go_enter Tryd.func6, Tryd.ntmps6
  try simp only [List.append]
  go_wp2_with (first
    | (go_at_call 9; refine HB.out.mono ?_; rintro e w' ⟨rfl, hw⟩)
    | (go_at_call 24; refine (HQ.out _).mono ?_; rintro e w' ⟨rfl, rfl⟩)
    | (go_at_call 25; refine (HM.out _).mono ?_; rintro e w' ⟨rfl, rfl⟩))
  go_ret
  exact ⟨rfl, hw⟩

set_option maxRecDepth 100000 in
set_option maxHeartbeats 1000000 in
theorem div_least_neg_10 (x y q r m : Int) (w : World) (ht : Tab w) (hx : -9223372036854775808 ≤ x) (hx' : x ≤ 9223372036854775807) (hy : -9223372036854775808 ≤ y) (hy' : y ≤ 9223372036854775807) (zn : ¬ (x = -9223372036854775808 ∧ y = -1))
    (HQ : Hid (∀ w, Calls Tryd.prog 24 #[.int .i64 x, .int .i64 y] w fun e w' => e = .returned (.tuple #[.int .i64 q, .int .i64 0]) ∧ w' = w))
    (HM : Hid (∀ w, Calls Tryd.prog 25 #[.int .i64 x, .int .i64 y] w fun e w' => e = .returned (.tuple #[.int .i64 m, .int .i64 0]) ∧ w' = w))
    (hr : x - q * y = r) (p1 : -9223372036854775808 ≤ q * y) (p2 : q * y ≤ 9223372036854775807) (hl : r.natAbs < y.natAbs) (cx : x = -9223372036854775808) (cy : -9223372036854775808 < y) (cy' : y < 0) (cr : r = 0) (cq : 0 < q) (cm : m = r) :
    Calls Tryd.prog 6 #[.int .i64 x, .int .i64 y] w fun e w' => e = .returned (.bool true) ∧ Below w.heap.size w w' := by
  have HB := hide (begun_any w ht)
  clear ht
  have r1 : -9223372036854775808 ≤ r := by omega
  have r2 : r ≤ 9223372036854775807 := by omega
  have y1 : -9223372036854775808 ≤ -y := by omega
  have y2 : -y ≤ 9223372036854775807 := by omega
  have f0 : (y == 0) = false := by simp <;> omega
  have f1 : decide (y < 0) = true := by simp <;> omega
  have f2 : decide (0 < y) = false := by simp <;> omega
  have f3 : (y == -9223372036854775808) = false := by simp <;> omega
  have f4 : decide (x < 0) = true := by simp <;> omega
  have f5 : (x == -9223372036854775808) = true := by simp <;> omega
  have f6 : (y == -1) = false := by simp <;> omega
  have f7 : (r != 0) = false := by simp <;> omega
  have f8 : decide (r < 0) = false := by simp <;> omega
  have f9 : (q != 0) = true := by simp <;> omega
  have f10 : decide (q < 0) = false := by simp <;> omega
  have f11 : (m != 0) = false := by simp <;> omega
  have f12 : decide (m < 0) = false := by simp <;> omega
  have f13 : decide (m ≤ y) = false := by simp <;> omega
  have f14 : (r == m) = true := by simp <;> omega
  have f15 : decide (y < r) = true := by simp <;> omega
  have f16 : decide (r < -y) = true := by simp <;> omega
  clear cx cy cy' cr cq cm hl zn
  go_enter Tryd.func6, Tryd.ntmps6
  try simp only [List.append]
  go_wp2_with (first
    | (go_at_call 9; refine HB.out.mono ?_; rintro e w' ⟨rfl, hw⟩)
    | (go_at_call 24; refine (HQ.out _).mono ?_; rintro e w' ⟨rfl, rfl⟩)
    | (go_at_call 25; refine (HM.out _).mono ?_; rintro e w' ⟨rfl, rfl⟩))
  go_ret
  exact ⟨rfl, hw⟩

set_option maxRecDepth 100000 in
set_option maxHeartbeats 1000000 in
theorem div_least_neg_01 (x y q r m : Int) (w : World) (ht : Tab w) (hx : -9223372036854775808 ≤ x) (hx' : x ≤ 9223372036854775807) (hy : -9223372036854775808 ≤ y) (hy' : y ≤ 9223372036854775807) (zn : ¬ (x = -9223372036854775808 ∧ y = -1))
    (HQ : Hid (∀ w, Calls Tryd.prog 24 #[.int .i64 x, .int .i64 y] w fun e w' => e = .returned (.tuple #[.int .i64 q, .int .i64 0]) ∧ w' = w))
    (HM : Hid (∀ w, Calls Tryd.prog 25 #[.int .i64 x, .int .i64 y] w fun e w' => e = .returned (.tuple #[.int .i64 m, .int .i64 0]) ∧ w' = w))
    (hr : x - q * y = r) (p1 : -9223372036854775808 ≤ q * y) (p2 : q * y ≤ 9223372036854775807) (hl : r.natAbs < y.natAbs) (cx : x = -9223372036854775808) (cy : -9223372036854775808 < y) (cy' : y < 0) (cr : r < 0) (cq : q = 0) (cm : m = r) :
    Calls Tryd.prog 6 #[.int .i64 x, .int .i64 y] w fun e w' => e = .returned (.bool true) ∧ Below w.heap.size w w' := by
  have HB := hide (begun_any w ht)
  clear ht
  have r1 : -9223372036854775808 ≤ r := by omega
  have r2 : r ≤ 9223372036854775807 := by omega
  have y1 : -9223372036854775808 ≤ -y := by omega
  have y2 : -y ≤ 9223372036854775807 := by omega
  have f0 : (y == 0) = false := by simp <;> omega
  have f1 : decide (y < 0) = true := by simp <;> omega
  have f2 : decide (0 < y) = false := by simp <;> omega
  have f3 : (y == -9223372036854775808) = false := by simp <;> omega
  have f4 : decide (x < 0) = true := by simp <;> omega
  have f5 : (x == -9223372036854775808) = true := by simp <;> omega
  have f6 : (y == -1) = false := by simp <;> omega
  have f7 : (r != 0) = true := by simp <;> omega
  have f8 : decide (r < 0) = true := by simp <;> omega
  have f9 : (q != 0) = false := by simp <;> omega
  have f10 : decide (q < 0) = false := by simp <;> omega
  have f11 : (m != 0) = true := by simp <;> omega
  have f12 : decide (m < 0) = true := by simp <;> omega
  have f13 : decide (m ≤ y) = false := by simp <;> omega
  have f14 : (r == m) = true := by simp <;> omega
  have f15 : decide (y < r) = true := by simp <;> omega
  have f16 : decide (r < -y) = true := by simp <;> omega
  clear cx cy cy' cr cq cm hl zn
  go_enter Tryd.func6, Tryd.ntmps6
  try simp only [List.append]
  go_wp2_with (first
    | (go_at_call 9; refine HB.out.mono ?_; rintro e w' ⟨rfl, hw⟩)
    | (go_at_call 24; refine (HQ.out _).mono ?_; rintro e w' ⟨rfl, rfl⟩)
    | (go_at_call 25; refine (HM.out _).mono ?_; rintro e w' ⟨rfl, rfl⟩))
  go_ret
  exact ⟨rfl, hw⟩

set_option maxRecDepth 100000 in
set_option maxHeartbeats 1000000 in
theorem div_least_neg_00 (x y q r m : Int) (w : World) (ht : Tab w) (hx : -9223372036854775808 ≤ x) (hx' : x ≤ 9223372036854775807) (hy : -9223372036854775808 ≤ y) (hy' : y ≤ 9223372036854775807) (zn : ¬ (x = -9223372036854775808 ∧ y = -1))
    (HQ : Hid (∀ w, Calls Tryd.prog 24 #[.int .i64 x, .int .i64 y] w fun e w' => e = .returned (.tuple #[.int .i64 q, .int .i64 0]) ∧ w' = w))
    (HM : Hid (∀ w, Calls Tryd.prog 25 #[.int .i64 x, .int .i64 y] w fun e w' => e = .returned (.tuple #[.int .i64 m, .int .i64 0]) ∧ w' = w))
    (hr : x - q * y = r) (p1 : -9223372036854775808 ≤ q * y) (p2 : q * y ≤ 9223372036854775807) (hl : r.natAbs < y.natAbs) (cx : x = -9223372036854775808) (cy : -9223372036854775808 < y) (cy' : y < 0) (cr : r < 0) (cq : 0 < q) (cm : m = r) :
    Calls Tryd.prog 6 #[.int .i64 x, .int .i64 y] w fun e w' => e = .returned (.bool true) ∧ Below w.heap.size w w' := by
  have HB := hide (begun_any w ht)
  clear ht
  have r1 : -9223372036854775808 ≤ r := by omega
  have r2 : r ≤ 9223372036854775807 := by omega
  have y1 : -9223372036854775808 ≤ -y := by omega
  have y2 : -y ≤ 9223372036854775807 := by omega
  have f0 : (y == 0) = false := by simp <;> omega
  have f1 : decide (y < 0) = true := by simp <;> omega
  have f2 : decide (0 < y) = false := by simp <;> omega
  have f3 : (y == -9223372036854775808) = false := by simp <;> omega
  have f4 : decide (x < 0) = true := by simp <;> omega
  have f5 : (x == -9223372036854775808) = true := by simp <;> omega
  have f6 : (y == -1) = false := by simp <;> omega
  have f7 : (r != 0) = true := by simp <;> omega
  have f8 : decide (r < 0) = true := by simp <;> omega
  have f9 : (q != 0) = true := by simp <;> omega
  have f10 : decide (q < 0) = false := by simp <;> omega
  have f11 : (m != 0) = true := by simp <;> omega
  have f12 : decide (m < 0) = true := by simp <;> omega
  have f13 : decide (m ≤ y) = false := by simp <;> omega
  have f14 : (r == m) = true := by simp <;> omega
  have f15 : decide (y < r) = true := by simp <;> omega
  have f16 : decide (r < -y) = true := by simp <;> omega
  clear cx cy cy' cr cq cm hl zn
  go_enter Tryd.func6, Tryd.ntmps6
  try simp only [List.append]
  go_wp2_with (first
    | (go_at_call 9; refine HB.out.mono ?_; rintro e w' ⟨rfl, hw⟩)
    | (go_at_call 24; refine (HQ.out _).mono ?_; rintro e w' ⟨rfl, rfl⟩)
    | (go_at_call 25; refine (HM.out _).mono ?_; rintro e w' ⟨rfl, rfl⟩))
  go_ret
  exact ⟨rfl, hw⟩

set_option maxRecDepth 100000 in
set_option maxHeartbeats 1000000 in
theorem div_least_pos_11 (x y q r m : Int) (w : World) (ht : Tab w) (hx : -9223372036854775808 ≤ x) (hx' : x ≤ 9223372036854775807) (hy : -9223372036854775808 ≤ y) (hy' : y ≤ 9223372036854775807) (zn : ¬ (x = -9223372036854775808 ∧ y = -1))
    (HQ : Hid (∀ w, Calls Tryd.prog 24 #[.int .i64 x, .int .i64 y] w fun e w' => e = .returned (.tuple #[.int .i64 q, .int .i64 0]) ∧ w' = w))
    (HM : Hid (∀ w, Calls Tryd.prog 25 #[.int .i64 x, .int .i64 y] w fun e w' => e = .returned (.tuple #[.int .i64 m, .int .i64 0]) ∧ w' = w))
    (hr : x - q * y = r) (p1 : -9223372036854775808 ≤ q * y) (p2 : q * y ≤ 9223372036854775807) (hl : r.natAbs < y.natAbs) (cx : x = -9223372036854775808) (cy : 0 < y) (cr : r = 0) (cq : q = 0) (cm : m = r) :
    Calls Tryd.prog 6 #[.int .i64 x, .int .i64 y] w fun e w' => e = .returned (.bool true) ∧ Below w.heap.size w w' := by
  have HB := hide (begun_any w ht)
  clear ht
  have r1 : -9223372036854775808 ≤ r := by omega
  have r2 : r ≤ 9223372036854775807 := by omega
  have y1 : -9223372036854775808 ≤ -y := by omega
  have y2 : -y ≤ 9223372036854775807 := by omega
  have f0 : (y == 0) = false := by simp <;> omega
  have f1 : decide (y < 0) = false := by simp <;> omega
  have f2 : decide (0 < y) = true := by simp <;> omega
  have f3 : (y == -9223372036854775808) = false := by simp <;> omega
  have f4 : decide (x < 0) = true := by simp <;> omega
  have f5 : (x == -9223372036854775808) = true := by simp <;> omega
  have f6 : (y == -1) = false := by simp <;> omega
  have f7 : (r != 0) = false := by simp <;> omega
  have f8 : decide (r < 0) = false := by simp <;> omega
  have f9 : (q != 0) = false := by simp <;> omega
  have f10 : decide (q < 0) = false := by simp <;> omega
  have f11 : (m != 0) = false := by simp <;> omega
  have f12 : decide (m < 0) = false := by simp <;> omega
  have f13 : decide (y ≤ m) = false := by simp <;> omega
  have f14 : (r == m) = true := by simp <;> omega
  have f15 : decide (-y < r) = true := by simp <;> omega
  have f16 : decide (r < y) = true := by simp <;> omega
  clear cx cy cr cq cm hl zn
  go_enter Tryd.func6, Tryd.ntmps6
  try simp only [List.append]
  go_wp2_with (first
    | (go_at_call 9; refine HB.out.mono ?_; rintro e w' ⟨rfl, hw⟩)
    | (go_at_call 24; refine (HQ.out _).mono ?_; rintro e w' ⟨rfl, rfl⟩)
    | (go_at_call 25; refine (HM.out _).mono ?_; rintro e w' ⟨rfl, rfl⟩))
  go_ret
  exact ⟨rfl, hw⟩

set_option maxRecDepth 100000 in
set_option maxHeartbeats 1000000 in
theorem div_least_pos_10 (x y q r m : Int) (w : World) (ht : Tab w) (hx : -9223372036854775808 ≤ x) (hx' : x ≤ 9223372036854775807) (hy : -9223372036854775808 ≤ y) (hy' : y ≤ 9223372036854775807) (zn : ¬ (x = -9223372036854775808 ∧ y = -1))
    (HQ : Hid (∀ w, Calls Tryd.prog 24 #[.int .i64 x, .int .i64 y] w fun e w' => e = .returned (.tuple #[.int .i64 q, .int .i64 0]) ∧ w' = w))
    (HM : Hid (∀ w, Calls Tryd.prog 25 #[.int .i64 x, .int .i64 y] w fun e w' => e = .returned (.tuple #[.int .i64 m, .int .i64 0]) ∧ w' = w))
    (hr : x - q * y = r) (p1 : -9223372036854775808 ≤ q * y) (p2 : q * y ≤ 9223372036854775807) (hl : r.natAbs < y.natAbs) (cx : x = -9223372036854775808) (cy : 0 < y) (cr : r = 0) (cq : q < 0) (cm : m = r) :
    Calls Tryd.prog 6 #[.int .i64 x, .int .i64 y] w fun e w' => e = .returned (.bool true) ∧ Below w.heap.size w w' := by
  have HB := hide (begun_any w ht)
  clear ht
  have r1 : -9223372036854775808 ≤ r := by omega
  have r2 : r ≤ 9223372036854775807 := by omega
  have y1 : -9223372036854775808 ≤ -y := by omega
  have y2 : -y ≤ 9223372036854775807 := by omega
  have f0 : (y == 0) = false := by simp <;> omega
  have f1 : decide (y < 0) = false := by simp <;> omega
  have f2 : decide (0 < y) = true := by simp <;> omega
  have f3 : (y == -9223372036854775808) = false := by simp <;> omega
  have f4 : decide (x < 0) = true := by simp <;> omega
  have f5 : (x == -9223372036854775808) = true := by simp <;> omega
  have f6 : (y == -1) = false := by simp <;> omega
  have f7 : (r != 0) = false := by simp <;> omega
  have f8 : decide (r < 0) = false := by simp <;> omega
  have f9 : (q != 0) = true := by simp <;> omega
  have f10 : decide (q < 0) = true := by simp <;> omega
  have f11 : (m != 0) = false := by simp <;> omega
  have f12 : decide (m < 0) = false := by simp <;> omega
  have f13 : decide (y ≤ m) = false := by simp <;> omega
  have f14 : (r == m) = true := by simp <;> omega
  have f15 : decide (-y < r) = true := by simp <;> omega
  have f16 : decide (r < y) = true := by simp <;> omega
  clear cx cy cr cq cm hl zn
  go_enter Tryd.func6, Tryd.ntmps6
  try simp only [List.append]
  go_wp2_with (first
    | (go_at_call 9; refine HB.out.mono ?_; rintro e w' ⟨rfl, hw⟩)
    | (go_at_call 24; refine (HQ.out _).mono ?_; rintro e w' ⟨rfl, rfl⟩)
    | (go_at_call 25; refine (HM.out _).mono ?_; rintro e w' ⟨rfl, rfl⟩))
  go_ret
  exact ⟨rfl, hw⟩

set_option maxRecDepth 100000 in
set_option maxHeartbeats 1000000 in
theorem div_least_pos_01 (x y q r m : Int) (w : World) (ht : Tab w) (hx : -9223372036854775808 ≤ x) (hx' : x ≤ 9223372036854775807) (hy : -9223372036854775808 ≤ y) (hy' : y ≤ 9223372036854775807) (zn : ¬ (x = -9223372036854775808 ∧ y = -1))
    (HQ : Hid (∀ w, Calls Tryd.prog 24 #[.int .i64 x, .int .i64 y] w fun e w' => e = .returned (.tuple #[.int .i64 q, .int .i64 0]) ∧ w' = w))
    (HM : Hid (∀ w, Calls Tryd.prog 25 #[.int .i64 x, .int .i64 y] w fun e w' => e = .returned (.tuple #[.int .i64 m, .int .i64 0]) ∧ w' = w))
    (hr : x - q * y = r) (p1 : -9223372036854775808 ≤ q * y) (p2 : q * y ≤ 9223372036854775807) (hl : r.natAbs < y.natAbs) (cx : x = -9223372036854775808) (cy : 0 < y) (cr : r < 0) (cq : q = 0) (cm : m = r + y) :
    Calls Tryd.prog 6 #[.int .i64 x, .int .i64 y] w fun e w' => e = .returned (.bool true) ∧ Below w.heap.size w w' := by
  have HB := hide (begun_any w ht)
  clear ht
  have r1 : -9223372036854775808 ≤ r := by omega
  have r2 : r ≤ 9223372036854775807 := by omega
  have s1 : -9223372036854775808 ≤ r + y := by omega
  have s2 : r + y ≤ 9223372036854775807 := by omega
  have y1 : -9223372036854775808 ≤ -y := by omega
  have y2 : -y ≤ 9223372036854775807 := by omega
  have f0 : (y == 0) = false := by simp <;> omega
  have f1 : decide (y < 0) = false := by simp <;> omega
  have f2 : decide (0 < y) = true := by simp <;> omega
  have f3 : (y == -9223372036854775808) = false := by simp <;> omega
  have f4 : decide (x < 0) = true := by simp <;> omega
  have f5 : (x == -9223372036854775808) = true := by simp <;> omega
  have f6 : (y == -1) = false := by simp <;> omega
  have f7 : (r != 0) = true := by simp <;> omega
  have f8 : decide (r < 0) = true := by simp <;> omega
  have f9 : (q != 0) = false := by simp <;> omega
  have f10 : decide (q < 0) = false := by simp <;> omega
  have f11 : (m != 0) = true := by simp <;> omega
  have f12 : decide (m < 0) = false := by simp <;> omega
  have f13 : decide (y ≤ m) = false := by simp <;> omega
  have f14 : (r == m) = false := by simp <;> omega
  have f15 : (r + y == m) = true := by simp <;> omega
  have f16 : decide (-y < r) = true := by simp <;> omega
  have f17 : decide (r < y) = true := by simp <;> omega
  clear cx cy cr cq cm hl zn
  go_enter Tryd.func6, Tryd.ntmps6
  try simp only [List.append]
  go_wp2_with (first
    | (go_at_call 9; refine HB.out.mono ?_; rintro e w' ⟨rfl, hw⟩)
    | (go_at_call 24; refine (HQ.out _).mono ?_; rintro e w' ⟨rfl, rfl⟩)
    | (go_at_call 25; refine (HM.out _).mono ?_; rintro e w' ⟨rfl, rfl⟩))
  go_ret
  exact ⟨rfl, hw⟩

set_option maxRecDepth 100000 in
set_option maxHeartbeats 1000000 in
theorem div_least_pos_00 (x y q r m : Int) (w : World) (ht : Tab w) (hx : -9223372036854775808 ≤ x) (hx' : x ≤ 9223372036854775807) (hy : -9223372036854775808 ≤ y) (hy' : y ≤ 9223372036854775807) (zn : ¬ (x = -9223372036854775808 ∧ y = -1))
    (HQ : Hid (∀ w, Calls Tryd.prog 24 #[.int .i64 x, .int .i64 y] w fun e w' => e = .returned (.tuple #[.int .i64 q, .int .i64 0]) ∧ w' = w))
    (HM : Hid (∀ w, Calls Tryd.prog 25 #[.int .i64 x, .int .i64 y] w fun e w' => e = .returned (.tuple #[.int .i64 m, .int .i64 0]) ∧ w' = w))
    (hr : x - q * y = r) (p1 : -9223372036854775808 ≤ q * y) (p2 : q * y ≤ 9223372036854775807) (hl : r.natAbs < y.natAbs) (cx : x = -9223372036854775808) (cy : 0 < y) (cr : r < 0) (cq : q < 0) (cm : m = r + y) :
    Calls Tryd.prog 6 #[.int .i64 x, .int .i64 y] w fun e w' => e = .returned (.bool true) ∧ Below w.heap.size w w' := by
  have HB := hide (begun_any w ht)
  clear ht
  have r1 : -9223372036854775808 ≤ r := by omega
  have r2 : r ≤ 9223372036854775807 := by omega
  have s1 : -9223372036854775808 ≤ r + y := by omega
  have s2 : r + y ≤ 9223372036854775807 := by omega
  have y1 : -9223372036854775808 ≤ -y := by omega
  have y2 : -y ≤ 9223372036854775807 := by omega
  have f0 : (y == 0) = false := by simp <;> omega
  have f1 : decide (y < 0) = false := by simp <;> omega
  have f2 : decide (0 < y) = true := by simp <;> omega
  have f3 : (y == -9223372036854775808) = false := by simp <;> omega
  have f4 : decide (x < 0) = true := by simp <;> omega
  have f5 : (x == -9223372036854775808) = true := by simp <;> omega
  have f6 : (y == -1) = false := by simp <;> omega
  have f7 : (r != 0) = true := by simp <;> omega
  have f8 : decide (r < 0) = true := by simp <;> omega
  have f9 : (q != 0) = true := by simp <;> omega
  have f10 : decide (q < 0) = true := by simp <;> omega
  have f11 : (m != 0) = true := by simp <;> omega
  have f12 : decide (m < 0) = false := by simp <;> omega
  have f13 : decide (y ≤ m) = false := by simp <;> omega
  have f14 : (r == m) = false := by simp <;> omega
  have f15 : (r + y == m) = true := by simp <;> omega
  have f16 : decide (-y < r) = true := by simp <;> omega
  have f17 : decide (r < y) = true := by simp <;> omega
  clear cx cy cr cq cm hl zn
  go_enter Tryd.func6, Tryd.ntmps6
  try simp only [List.append]
  go_wp2_with (first
    | (go_at_call 9; refine HB.out.mono ?_; rintro e w' ⟨rfl, hw⟩)
    | (go_at_call 24; refine (HQ.out _).mono ?_; rintro e w' ⟨rfl, rfl⟩)
    | (go_at_call 25; refine (HM.out _).mono ?_; rintro e w' ⟨rfl, rfl⟩))
  go_ret
  exact ⟨rfl, hw⟩

set_option maxRecDepth 100000 in
set_option maxHeartbeats 1000000 in
theorem div_neg_least_11 (x y q r m : Int) (w : World) (ht : Tab w) (hx : -9223372036854775808 ≤ x) (hx' : x ≤ 9223372036854775807) (hy : -9223372036854775808 ≤ y) (hy' : y ≤ 9223372036854775807) (zn : ¬ (x = -9223372036854775808 ∧ y = -1))
    (HQ : Hid (∀ w, Calls Tryd.prog 24 #[.int .i64 x, .int .i64 y] w fun e w' => e = .returned (.tuple #[.int .i64 q, .int .i64 0]) ∧ w' = w))
    (HM : Hid (∀ w, Calls Tryd.prog 25 #[.int .i64 x, .int .i64 y] w fun e w' => e = .returned (.tuple #[.int .i64 m, .int .i64 0]) ∧ w' = w))
    (hr : x - q * y = r) (p1 : -9223372036854775808 ≤ q * y) (p2 : q * y ≤ 9223372036854775807) (hl : r.natAbs < y.natAbs) (cx : -9223372036854775808 < x) (cx' : x < 0) (cy : y = -9223372036854775808) (cr : r = 0) (cq : q = 0) (cm : m = r) :
    Calls Tryd.prog 6 #[.int .i64 x, .int .i64 y] w fun e w' => e = .returned (.bool true) ∧ Below w.heap.size w w' := by
  have HB := hide (begun_any w ht)
  clear ht
  have r1 : -9223372036854775808 ≤ r := by omega
  have r2 : r ≤ 9223372036854775807 := by omega
  have f0 : (y == 0) = false := by simp <;> omega
  have f1 : decide (y < 0) = true := by simp <;> omega
  have f2 : decide (0 < y) = false := by simp <;> omega
  have f3 : (y == -9223372036854775808) = true := by simp <;> omega
  have f4 : decide (x < 0) = true := by simp <;> omega
  have f5 : (x == -9223372036854775808) = false := by simp <;> omega
  have f6 : (r != 0) = false := by simp <;> omega
  have f7 : decide (r < 0) = false := by simp <;> omega
  have f8 : (q != 0) = false := by simp <;> omega
  have f9 : decide (q < 0) = false := by simp <;> omega
  have f10 : (m != 0) = false := by simp <;> omega
  have f11 : decide (m < 0) = false := by simp <;> omega
  have f12 : decide (m ≤ y) = false := by simp <;> omega
  have f13 : (r == m) = true := by simp <;> omega
  have f14 : decide (y < r) = true := by simp <;> omega
  clear cx cx' cy cr cq cm hl zn
  go_enter Tryd.func6, Tryd.ntmps6
  try simp only [List.append]
  go_wp2_with (first
    | (go_at_call 9; refine HB.out.mono ?_; rintro e w' ⟨rfl, hw⟩)
    | (go_at_call 24; refine (HQ.out _).mono ?_; rintro e w' ⟨rfl, rfl⟩)
    | (go_at_call 25; refine (HM.out _).mono ?_; rintro e w' ⟨rfl, rfl⟩))
  go_ret
  exact ⟨rfl, hw⟩

set_option maxRecDepth 100000 in
set_option maxHeartbeats 1000000 in
theorem div_neg_least_10 (x y q r m : Int) (w : World) (ht : Tab w) (hx : -9223372036854775808 ≤ x) (hx' : x ≤ 9223372036854775807) (hy : -9223372036854775808 ≤ y) (hy' : y ≤ 9223372036854775807) (zn : ¬ (x = -9223372036854775808 ∧ y = -1))
    (HQ : Hid (∀ w, Calls Tryd.prog 24 #[.int .i64 x, .int .i64 y] w fun e w' => e = .returned (.tuple #[.int .i64 q, .int .i64 0]) ∧ w' = w))
    (HM : Hid (∀ w, Calls Tryd.prog 25 #[.int .i64 x, .int .i64 y] w fun e w' => e = .returned (.tuple #[.int .i64 m, .int .i64 0]) ∧ w' = w))
    (hr : x - q * y = r) (p1 : -9223372036854775808 ≤ q * y) (p2 : q * y ≤ 9223372036854775807) (hl : r.natAbs < y.natAbs) (cx : -9223372036854775808 < x) (cx' : x < 0) (cy : y = -9223372036854775808) (cr : r = 0) (cq : 0 < q) (cm : m = r) :
    Calls Tryd.prog 6 #[.int .i64 x, .int .i64 y] w fun e w' => e = .returned (.bool true) ∧ Below w.heap.size w w' := by
  have HB := hide (begun_any w ht)
  clear ht
  have r1 : -9223372036854775808 ≤ r := by omega
  have r2 : r ≤ 9223372036854775807 := by omega
  have f0 : (y == 0) = false := by simp <;> omega
  have f1 : decide (y < 0) = true := by simp <;> omega
  have f2 : decide (0 < y) = false := by simp <;> omega
  have f3 : (y == -9223372036854775808) = true := by simp <;> omega
  have f4 : decide (x < 0) = true := by simp <;> omega
  have f5 : (x == -9223372036854775808) = false := by simp <;> omega
  have f6 : (r != 0) = false := by simp <;> omega
  have f7 : decide (r < 0) = false := by simp <;> omega
  have f8 : (q != 0) = true := by simp <;> omega
  have f9 : decide (q < 0) = false := by simp <;> omega
  have f10 : (m != 0) = false := by simp <;> omega
  have f11 : decide (m < 0) = false := by simp <;> omega
  have f12 : decide (m ≤ y) = false := by simp <;> omega
  have f13 : (r == m) = true := by simp <;> omega
  have f14 : decide (y < r) = true := by simp <;> omega
  clear cx cx' cy cr cq cm hl zn
  go_enter Tryd.func6, Tryd.ntmps6
  try simp only [List.append]
  go_wp2_with (first
    | (go_at_call 9; refine HB.out.mono ?_; rintro e w' ⟨rfl, hw⟩)
    | (go_at_call 24; refine (HQ.out _).mono ?_; rintro e w' ⟨rfl, rfl⟩)
    | (go_at_call 25; refine (HM.out _).mono ?_; rintro e w' ⟨rfl, rfl⟩))
  go_ret
  exact ⟨rfl, hw⟩

set_option maxRecDepth 100000 in
set_option maxHeartbeats 1000000 in
theorem div_neg_least_01 (x y q r m : Int) (w : World) (ht : Tab w) (hx : -9223372036854775808 ≤ x) (hx' : x ≤ 9223372036854775807) (hy : -9223372036854775808 ≤ y) (hy' : y ≤ 9223372036854775807) (zn : ¬ (x = -9223372036854775808 ∧ y = -1))
    (HQ : Hid (∀ w, Calls Tryd.prog 24 #[.int .i64 x, .int .i64 y] w fun e w' => e = .returned (.tuple #[.int .i64 q, .int .i64 0]) ∧ w' = w))
    (HM : Hid (∀ w, Calls Tryd.prog 25 #[.int .i64 x, .int .i64 y] w fun e w' => e = .returned (.tuple #[.int .i64 m, .int .i64 0]) ∧ w' = w))
    (hr : x - q * y = r) (p1 : -9223372036854775808 ≤ q * y) (p2 : q * y ≤ 9223372036854775807) (hl : r.natAbs < y.natAbs) (cx : -9223372036854775808 < x) (cx' : x < 0) (cy : y = -9223372036854775808) (cr : r < 0) (cq : q = 0) (cm : m = r) :
    Calls Tryd.prog 6 #[.int .i64 x, .int .i64 y] w fun e w' => e = .returned (.bool true) ∧ Below w.heap.size w w' := by
  have HB := hide (begun_any w ht)
  clear ht
  have r1 : -9223372036854775808 ≤ r := by omega
  have r2 : r ≤ 9223372036854775807 := by omega
  have f0 : (y == 0) = false := by simp <;> omega
  have f1 : decide (y < 0) = true := by simp <;> omega
  have f2 : decide (0 < y) = false := by simp <;> omega
  have f3 : (y == -9223372036854775808) = true := by simp <;> omega
  have f4 : decide (x < 0) = true := by simp <;> omega
  have f5 : (x == -9223372036854775808) = false := by simp <;> omega
  have f6 : (r != 0) = true := by simp <;> omega
  have f7 : decide (r < 0) = true := by simp <;> omega
  have f8 : (q != 0) = false := by simp <;> omega
  have f9 : decide (q < 0) = false := by simp <;> omega
  have f10 : (m != 0) = true := by simp <;> omega
  have f11 : decide (m < 0) = true := by simp <;> omega
  have f12 : decide (m ≤ y) = false := by simp <;> omega
  have f13 : (r == m) = true := by simp <;> omega
  have f14 : decide (y < r) = true := by simp <;> omega
  clear cx cx' cy cr cq cm hl zn
  go_enter Tryd.func6, Tryd.ntmps6
  try simp only [List.append]
  go_wp2_with (first
    | (go_at_call 9; refine HB.out.mono ?_; rintro e w' ⟨rfl, hw⟩)
    | (go_at_call 24; refine (HQ.out _).mono ?_; rintro e w' ⟨rfl, rfl⟩)
    | (go_at_call 25; refine (HM.out _).mono ?_; rintro e w' ⟨rfl, rfl⟩))
  go_ret
  exact ⟨rfl, hw⟩

set_option maxRecDepth 100000 in
set_option maxHeartbeats 1000000 in
theorem div_neg_least_00 (x y q r m : Int) (w : World) (ht : Tab w) (hx : -9223372036854775808 ≤ x) (hx' : x ≤ 9223372036854775807) (hy : -9223372036854775808 ≤ y) (hy' : y ≤ 9223372036854775807) (zn : ¬ (x = -9223372036854775808 ∧ y = -1))
    (HQ : Hid (∀ w, Calls Tryd.prog 24 #[.int .i64 x, .int .i64 y] w fun e w' => e = .returned (.tuple #[.int .i64 q, .int .i64 0]) ∧ w' = w))
    (HM : Hid (∀ w, Calls Tryd.prog 25 #[.int .i64 x, .int .i64 y] w fun e w' => e = .returned (.tuple #[.int .i64 m, .int .i64 0]) ∧ w' = w))
    (hr : x - q * y = r) (p1 : -9223372036854775808 ≤ q * y) (p2 : q * y ≤ 9223372036854775807) (hl : r.natAbs < y.natAbs) (cx : -9223372036854775808 < x) (cx' : x < 0) (cy : y = -9223372036854775808) (cr : r < 0) (cq : 0 < q) (cm : m = r) :
    Calls Tryd.prog 6 #[.int .i64 x, .int .i64 y] w fun e w' => e = .returned (.bool true) ∧ Below w.heap.size w w' := by
  have HB := hide (begun_any w ht)
  clear ht
  have r1 : -9223372036854775808 ≤ r := by omega
  have r2 : r ≤ 9223372036854775807 := by omega
  have f0 : (y == 0) = false := by simp <;> omega
  have f1 : decide (y < 0) = true := by simp <;> omega
  have f2 : decide (0 < y) = false := by simp <;> omega
  have f3 : (y == -9223372036854775808) = true := by simp <;> omega
  have f4 : decide (x < 0) = true := by simp <;> omega
  have f5 : (x == -9223372036854775808) = false := by simp <;> omega
  have f6 : (r != 0) = true := by simp <;> omega
  have f7 : decide (r < 0) = true := by simp <;> omega
  have f8 : (q != 0) = true := by simp <;> omega
  have f9 : decide (q < 0) = false := by simp <;> omega
  have f10 : (m != 0) = true := by simp <;> omega
  have f11 : decide (m < 0) = true := by simp <;> omega
  have f12 : decide (m ≤ y) = false := by simp <;> omega
  have f13 : (r == m) = true := by simp <;> omega
  have f14 : decide (y < r) = true := by simp <;> omega
  clear cx cx' cy cr cq cm hl zn
  go_enter Tryd.func6, Tryd.ntmps6
  try simp only [List.append]
  go_wp2_with (first
    | (go_at_call 9; refine HB.out.mono ?_; rintro e w' ⟨rfl, hw⟩)
    | (go_at_call 24; refine (HQ.out _).mono ?_; rintro e w' ⟨rfl, rfl⟩)
    | (go_at_call 25; refine (HM.out _).mono ?_; rintro e w' ⟨rfl, rfl⟩))
  go_ret
  exact ⟨rfl, hw⟩

set_option maxRecDepth 100000 in
set_option maxHeartbeats 1000000 in
theorem div_neg_neg_11 (x y q r m : Int) (w : World) (ht : Tab w) (hx : -9223372036854775808 ≤ x) (hx' : x ≤ 9223372036854775807) (hy : -9223372036854775808 ≤ y) (hy' : y ≤ 9223372036854775807) (zn : ¬ (x = -9223372036854775808 ∧ y = -1))
    (HQ : Hid (∀ w, Calls Tryd.prog 24 #[.int .i64 x, .int .i64 y] w fun e w' => e = .returned (.tuple #[.int .i64 q, .int .i64 0]) ∧ w' = w))
    (HM : Hid (∀ w, Calls Tryd.prog 25 #[.int .i64 x, .int .i64 y] w fun e w' => e = .returned (.tuple #[.int .i64 m, .int .i64 0]) ∧ w' = w))
    (hr : x - q * y = r) (p1 : -9223372036854775808 ≤ q * y) (p2 : q * y ≤ 9223372036854775807) (hl : r.natAbs < y.natAbs) (cx : -9223372036854775808 < x) (cx' : x < 0) (cy : -9223372036854775808 < y) (cy' : y < 0) (cr : r = 0) (cq : q = 0) (cm : m = r) :
    Calls Tryd.prog 6 #[.int .i64 x, .int .i64 y] w fun e w' => e = .returned (.bool true) ∧ Below w.heap.size w w' := by
  have HB := hide (begun_any w ht)
  clear ht
  have r1 : -9223372036854775808 ≤ r := by omega
  have r2 : r ≤ 9223372036854775807 := by omega
  have y1 : -9223372036854775808 ≤ -y := by omega
  have y2 : -y ≤ 9223372036854775807 := by omega
  have f0 : (y == 0) = false := by simp <;> omega
  have f1 : decide (y < 0) = true := by simp <;> omega
  have f2 : decide (0 < y) = false := by simp <;> omega
  have f3 : (y == -9223372036854775808) = false := by simp <;> omega
  have f4 : decide (x < 0) = true := by simp <;> omega
  have f5 : (x == -9223372036854775808) = false := by simp <;> omega
  have f6 : (r != 0) = false := by simp <;> omega
  have f7 : decide (r < 0) = false := by simp <;> omega
  have f8 : (q != 0) = false := by simp <;> omega
  have f9 : decide (q < 0) = false := by simp <;> omega
  have f10 : (m != 0) = false := by simp <;> omega
  have f11 : decide (m < 0) = false := by simp <;> omega
  have f12 : decide (m ≤ y) = false := by simp <;> omega
  have f13 : (r == m) = true := by simp <;> omega
  have f14 : decide (y < r) = true := by simp <;> omega
  have f15 : decide (r < -y) = true := by simp <;> omega
  clear cx cx' cy cy' cr cq cm hl zn
  go_enter Tryd.func6, Tryd.ntmps6
  try simp only [List.append]
  go_wp2_with (first
    | (go_at_call 9; refine HB.out.mono ?_; rintro e w' ⟨rfl, hw⟩)
    | (go_at_call 24; refine (HQ.out _).mono ?_; rintro e w' ⟨rfl, rfl⟩)
    | (go_at_call 25; refine (HM.out _).mono ?_; rintro e w' ⟨rfl, rfl⟩))
  go_ret
  exact ⟨rfl, hw⟩

set_option maxRecDepth 100000 in
set_option maxHeartbeats 1000000 in
theorem div_neg_neg_10 (x y q r m : Int) (w : World) (ht : Tab w) (hx : -9223372036854775808 ≤ x) (hx' : x ≤ 9223372036854775807) (hy : -9223372036854775808 ≤ y) (hy' : y ≤ 9223372036854775807) (zn : ¬ (x = -9223372036854775808 ∧ y = -1))
    (HQ : Hid (∀ w, Calls Tryd.prog 24 #[.int .i64 x, .int .i64 y] w fun e w' => e = .returned (.tuple #[.int .i64 q, .int .i64 0]) ∧ w' = w))
    (HM : Hid (∀ w, Calls Tryd.prog 25 #[.int .i64 x, .int .i64 y] w fun e w' => e = .returned (.tuple #[.int .i64 m, .int .i64 0]) ∧ w' = w))
    (hr : x - q * y = r) (p1 : -9223372036854775808 ≤ q * y) (p2 : q * y ≤ 9223372036854775807) (hl : r.natAbs < y.natAbs) (cx : -9223372036854775808 < x) (cx' : x < 0) (cy : -9223372036854775808 < y) (cy' : y < 0) (cr : r = 0) (cq : 0 < q) (cm : m = r) :
    Calls Tryd.prog 6 #[.int .i64 x, .int .i64 y] w fun e w' => e = .returned (.bool true) ∧ Below w.heap.size w w' := by
  have HB := hide (begun_any w ht)
  clear ht
  have r1 : -9223372036854775808 ≤ r := by omega
  have r2 : r ≤ 9223372036854775807 := by omega
  have y1 : -9223372036854775808 ≤ -y := by omega
  have y2 : -y ≤ 9223372036854775807 := by omega
  have f0 : (y == 0) = false := by simp <;> omega
  have f1 : decide (y < 0) = true := by simp <;> omega
  have f2 : decide (0 < y) = false := by simp <;> omega
  have f3 : (y == -9223372036854775808) = false := by simp <;> omega
  have f4 : decide (x < 0) = true := by simp <;> omega
  have f5 : (x == -9223372036854775808) = false := by simp <;> omega
  have f6 : (r != 0) = false := by simp <;> omega
  have f7 : decide (r < 0) = false := by simp <;> omega
  have f8 : (q != 0) = true := by simp <;> omega
  have f9 : decide (q < 0) = false := by simp <;> omega
  have f10 : (m != 0) = false := by simp <;> omega
  have f11 : decide (m < 0) = false := by simp <;> omega
  have f12 : decide (m ≤ y) = false := by simp <;> omega
  have f13 : (r == m) = true := by simp <;> omega
  have f14 : decide (y < r) = true := by simp <;> omega
  have f15 : decide (r < -y) = true := by simp <;> omega
  clear cx cx' cy cy' cr cq cm hl zn
  go_enter Tryd.func6, Tryd.ntmps6
  try simp only [List.append]
  go_wp2_with (first
    | (go_at_call 9; refine HB.out.mono ?_; rintro e w' ⟨rfl, hw⟩)
    | (go_at_call 24; refine (HQ.out _).mono ?_; rintro e w' ⟨rfl, rfl⟩)
    | (go_at_call 25; refine (HM.out _).mono ?_; rintro e w' ⟨rfl, rfl⟩))
  go_ret
  exact ⟨rfl, hw⟩

set_option maxRecDepth 100000 in
set_option maxHeartbeats 1000000 in
theorem div_neg_neg_01 (x y q r m : Int) (w : World) (ht : Tab w) (hx : -9223372036854775808 ≤ x) (hx' : x ≤ 9223372036854775807) (hy : -9223372036854775808 ≤ y) (hy' : y ≤ 9223372036854775807) (zn : ¬ (x = -9223372036854775808 ∧ y = -1))
    (HQ : Hid (∀ w, Calls Tryd.prog 24 #[.int .i64 x, .int .i64 y] w fun e w' => e = .returned (.tuple #[.int .i64 q, .int .i64 0]) ∧ w' = w))
    (HM : Hid (∀ w, Calls Tryd.prog 25 #[.int .i64 x, .int .i64 y] w fun e w' => e = .returned (.tuple #[.int .i64 m, .int .i64 0]) ∧ w' = w))
    (hr : x - q * y = r) (p1 : -9223372036854775808 ≤ q * y) (p2 : q * y ≤ 9223372036854775807) (hl : r.natAbs < y.natAbs) (cx : -9223372036854775808 < x) (cx' : x < 0) (cy : -9223372036854775808 < y) (cy' : y < 0) (cr : r < 0) (cq : q = 0) (cm : m = r) :
    Calls Tryd.prog 6 #[.int .i64 x, .int .i64 y] w fun e w' => e = .returned (.bool true) ∧ Below w.heap.size w w' := by
  have HB := hide (begun_any w ht)
  clear ht
  have r1 : -9223372036854775808 ≤ r := by omega
  have r2 : r ≤ 9223372036854775807 := by omega
  have y1 : -9223372036854775808 ≤ -y := by omega
  have y2 : -y ≤ 9223372036854775807 := by omega
  have f0 : (y == 0) = false := by simp <;> omega
  have f1 : decide (y < 0) = true := by simp <;> omega
  have f2 : decide (0 < y) = false := by simp <;> omega
  have f3 : (y == -9223372036854775808) = false := by simp <;> omega
  have f4 : decide (x < 0) = true := by simp <;> omega
  have f5 : (x == -9223372036854775808) = false := by simp <;> omega
  have f6 : (r != 0) = true := by simp <;> omega
  have f7 : decide (r < 0) = true := by simp <;> omega
  have f8 : (q != 0) = false := by simp <;> omega
  have f9 : decide (q < 0) = false := by simp <;> omega
  have f10 : (m != 0) = true := by simp <;> omega
  have f11 : decide (m < 0) = true := by simp <;> omega
  have f12 : decide (m ≤ y) = false := by simp <;> omega
  have f13 : (r == m) = true := by simp <;> omega
  have f14 : decide (y < r) = true := by simp <;> omega
  have f15 : decide (r < -y) = true := by simp <;> omega
  clear cx cx' cy cy' cr cq cm hl zn
  go_enter Tryd.func6, Tryd.ntmps6
  try simp only [List.append]
  go_wp2_with (first
    | (go_at_call 9; refine HB.out.mono ?_; rintro e w' ⟨rfl, hw⟩)
    | (go_at_call 24; refine (HQ.out _).mono ?_; rintro e w' ⟨rfl, rfl⟩)
    | (go_at_call 25; refine (HM.out _).mono ?_; rintro e w' ⟨rfl, rfl⟩))
  go_ret
  exact ⟨rfl, hw⟩

set_option maxRecDepth 100000 in
set_option maxHeartbeats 1000000 in
theorem div_neg_neg_00 (x y q r m : Int) (w : World) (ht : Tab w) (hx : -9223372036854775808 ≤ x) (hx' : x ≤ 9223372036854775807) (hy : -9223372036854775808 ≤ y) (hy' : y ≤ 9223372036854775807) (zn : ¬ (x = -9223372036854775808 ∧ y = -1))
    (HQ : Hid (∀ w, Calls Tryd.prog 24 #[.int .i64 x, .int .i64 y] w fun e w' => e = .returned (.tuple #[.int .i64 q, .int .i64 0]) ∧ w' = w))
    (HM : Hid (∀ w, Calls Tryd.prog 25 #[.int .i64 x, .int .i64 y] w fun e w' => e = .returned (.tuple #[.int .i64 m, .int .i64 0]) ∧ w' = w))
    (hr : x - q * y = r) (p1 : -9223372036854775808 ≤ q * y) (p2 : q * y ≤ 9223372036854775807) (hl : r.natAbs < y.natAbs) (cx : -9223372036854775808 < x) (cx' : x < 0) (cy : -9223372036854775808 < y) (cy' : y < 0) (cr : r < 0) (cq : 0 < q) (cm : m = r) :
    Calls Tryd.prog 6 #[.int .i64 x, .int .i64 y] w fun e w' => e = .returned (.bool true) ∧ Below w.heap.size w w' := by
  have HB := hide (begun_any w ht)
  clear ht
  have r1 : -9223372036854775808 ≤ r := by omega
  have r2 : r ≤ 9223372036854775807 := by omega
  have y1 : -9223372036854775808 ≤ -y := by omega
  have y2 : -y ≤ 9223372036854775807 := by omega
  have f0 : (y == 0) = false := by simp <;> omega
  have f1 : decide (y < 0) = true := by simp <;> omega
  have f2 : decide (0 < y) = false := by simp <;> omega
  have f3 : (y == -9223372036854775808) = false := by simp <;> omega
  have f4 : decide (x < 0) = true := by simp <;> omega
  have f5 : (x == -9223372036854775808) = false := by simp <;> omega
  have f6 : (r != 0) = true := by simp <;> omega
  have f7 : decide (r < 0) = true := by simp <;> omega
  have f8 : (q != 0) = true := by simp <;> omega
  have f9 : decide (q < 0) = false := by simp <;> omega
  have f10 : (m != 0) = true := by simp <;> omega
  have f11 : decide (m < 0) = true := by simp <;> omega
  have f12 : decide (m ≤ y) = false := by simp <;> omega
  have f13 : (r == m) = true := by simp <;> omega
  have f14 : decide (y < r) = true := by simp <;> omega
  have f15 : decide (r < -y) = true := by simp <;> omega
  clear cx cx' cy cy' cr cq cm hl zn
  go_enter Tryd.func6, Tryd.ntmps6
  try simp only [List.append]
  go_wp2_with (first
    | (go_at_call 9; refine HB.out.mono ?_; rintro e w' ⟨rfl, hw⟩)
    | (go_at_call 24; refine (HQ.out _).mono ?_; rintro e w' ⟨rfl, rfl⟩)
    | (go_at_call 25; refine (HM.out _).mono ?_; rintro e w' ⟨rfl, rfl⟩))
  go_ret
  exact ⟨rfl, hw⟩

set_option maxRecDepth 100000 in
set_option maxHeartbeats 1000000 in
theorem div_neg_pos_11 (x y q r m : Int) (w : World) (ht : Tab w) (hx : -9223372036854775808 ≤ x) (hx' : x ≤ 9223372036854775807) (hy : -9223372036854775808 ≤ y) (hy' : y ≤ 9223372036854775807) (zn : ¬ (x = -9223372036854775808 ∧ y = -1))
    (HQ : Hid (∀ w, Calls Tryd.prog 24 #[.int .i64 x, .int .i64 y] w fun e w' => e = .returned (.tuple #[.int .i64 q, .int .i64 0]) ∧ w' = w))
    (HM : Hid (∀ w, Calls Tryd.prog 25 #[.int .i64 x, .int .i64 y] w fun e w' => e = .returned (.tuple #[.int .i64 m, .int .i64 0]) ∧ w' = w))
    (hr : x - q * y = r) (p1 : -9223372036854775808 ≤ q * y) (p2 : q * y ≤ 9223372036854775807) (hl : r.natAbs < y.natAbs) (cx : -9223372036854775808 < x) (cx' : x < 0) (cy : 0 < y) (cr : r = 0) (cq : q = 0) (cm : m = r) :
    Calls Tryd.prog 6 #[.int .i64 x, .int .i64 y] w fun e w' => e = .returned (.bool true) ∧ Below w.heap.size w w' := by
  have HB := hide (begun_any w ht)
  clear ht
  have r1 : -9223372036854775808 ≤ r := by omega
  have r2 : r ≤ 9223372036854775807 := by omega
  have y1 : -9223372036854775808 ≤ -y := by omega
  have y2 : -y ≤ 9223372036854775807 := by omega
  have f0 : (y == 0) = false := by simp <;> omega
  have f1 : decide (y < 0) = false := by simp <;> omega
  have f2 : decide (0 < y) = true := by simp <;> omega
  have f3 : (y == -9223372036854775808) = false := by simp <;> omega
  have f4 : decide (x < 0) = true := by simp <;> omega
  have f5 : (x == -9223372036854775808) = false := by simp <;> omega
  have f6 : (r != 0) = false := by simp <;> omega
  have f7 : decide (r < 0) = false := by simp <;> omega
  have f8 : (q != 0) = false := by simp <;> omega
  have f9 : decide (q < 0) = false := by simp <;> omega
  have f10 : (m != 0) = false := by simp <;> omega
  have f11 : decide (m < 0) = false := by simp <;> omega
  have f12 : decide (y ≤ m) = false := by simp <;> omega
  have f13 : (r == m) = true := by simp <;> omega
  have f14 : decide (-y < r) = true := by simp <;> omega
  have f15 : decide (r < y) = true := by simp <;> omega
  clear cx cx' cy cr cq cm hl zn
  go_enter Tryd.func6, Tryd.ntmps6
  try simp only [List.append]
  go_wp2_with (first
    | (go_at_call 9; refine HB.out.mono ?_; rintro e w' ⟨rfl, hw⟩)
    | (go_at_call 24; refine (HQ.out _).mono ?_; rintro e w' ⟨rfl, rfl⟩)
    | (go_at_call 25; refine (HM.out _).mono ?_; rintro e w' ⟨rfl, rfl⟩))
  go_ret
  exact ⟨rfl, hw⟩

set_option maxRecDepth 100000 in
set_option maxHeartbeats 1000000 in
theorem div_neg_pos_10 (x y q r m : Int) (w : World) (ht : Tab w) (hx : -9223372036854775808 ≤ x) (hx' : x ≤ 9223372036854775807) (hy : -9223372036854775808 ≤ y) (hy' : y ≤ 9223372036854775807) (zn : ¬ (x = -9223372036854775808 ∧ y = -1))
    (HQ : Hid (∀ w, Calls Tryd.prog 24 #[.int .i64 x, .int .i64 y] w fun e w' => e = .returned (.tuple #[.int .i64 q, .int .i64 0]) ∧ w' = w))
    (HM : Hid (∀ w, Calls Tryd.prog 25 #[.int .i64 x, .int .i64 y] w fun e w' => e = .returned (.tuple #[.int .i64 m, .int .i64 0]) ∧ w' = w))
    (hr : x - q * y = r) (p1 : -9223372036854775808 ≤ q * y) (p2 : q * y ≤ 9223372036854775807) (hl : r.natAbs < y.natAbs) (cx : -9223372036854775808 < x) (cx' : x < 0) (cy : 0 < y) (cr : r = 0) (cq : q < 0) (cm : m = r) :
    Calls Tryd.prog 6 #[.int .i64 x, .int .i64 y] w fun e w' => e = .returned (.bool true) ∧ Below w.heap.size w w' := by
  have HB := hide (begun_any w ht)
  clear ht
  have r1 : -9223372036854775808 ≤ r := by omega
  have r2 : r ≤ 9223372036854775807 := by omega
  have y1 : -9223372036854775808 ≤ -y := by omega
  have y2 : -y ≤ 9223372036854775807 := by omega
  have f0 : (y == 0) = false := by simp <;> omega
  have f1 : decide (y < 0) = false := by simp <;> omega
  have f2 : decide (0 < y) = true := by simp <;> omega
  have f3 : (y == -9223372036854775808) = false := by simp <;> omega
  have f4 : decide (x < 0) = true := by simp <;> omega
  have f5 : (x == -9223372036854775808) = false := by simp <;> omega
  have f6 : (r != 0) = false := by simp <;> omega
  have f7 : decide (r < 0) = false := by simp <;> omega
  have f8 : (q != 0) = true := by simp <;> omega
  have f9 : decide (q < 0) = true := by simp <;> omega
  have f10 : (m != 0) = false := by simp <;> omega
  have f11 : decide (m < 0) = false := by simp <;> omega
  have f12 : decide (y ≤ m) = false := by simp <;> omega
  have f13 : (r == m) = true := by simp <;> omega
  have f14 : decide (-y < r) = true := by simp <;> omega
  have f15 : decide (r < y) = true := by simp <;> omega
  clear cx cx' cy cr cq cm hl zn
  go_enter Tryd.func6, Tryd.ntmps6
  try simp only [List.append]
  go_wp2_with (first
    | (go_at_call 9; refine HB.out.mono ?_; rintro e w' ⟨rfl, hw⟩)
    | (go_at_call 24; refine (HQ.out _).mono ?_; rintro e w' ⟨rfl, rfl⟩)
    | (go_at_call 25; refine (HM.out _).mono ?_; rintro e w' ⟨rfl, rfl⟩))
  go_ret
  exact ⟨rfl, hw⟩

set_option maxRecDepth 100000 in
set_option maxHeartbeats 1000000 in
theorem div_neg_pos_01 (x y q r m : Int) (w : World) (ht : Tab w) (hx : -9223372036854775808 ≤ x) (hx' : x ≤ 9223372036854775807) (hy : -9223372036854775808 ≤ y) (hy' : y ≤ 9223372036854775807) (zn : ¬ (x = -9223372036854775808 ∧ y = -1))
    (HQ : Hid (∀ w, Calls Tryd.prog 24 #[.int .i64 x, .int .i64 y] w fun e w' => e = .returned (.tuple #[.int .i64 q, .int .i64 0]) ∧ w' = w))
    (HM : Hid (∀ w, Calls Tryd.prog 25 #[.int .i64 x, .int .i64 y] w fun e w' => e = .returned (.tuple #[.int .i64 m, .int .i64 0]) ∧ w' = w))
    (hr : x - q * y = r) (p1 : -9223372036854775808 ≤ q * y) (p2 : q * y ≤ 9223372036854775807) (hl : r.natAbs < y.natAbs) (cx : -9223372036854775808 < x) (cx' : x < 0) (cy : 0 < y) (cr : r < 0) (cq : q = 0) (cm : m = r + y) :
    Calls Tryd.prog 6 #[.int .i64 x, .int .i64 y] w fun e w' => e = .returned (.bool true) ∧ Below w.heap.size w w' := by
  have HB := hide (begun_any w ht)
  clear ht
  have r1 : -9223372036854775808 ≤ r := by omega
  have r2 : r ≤ 9223372036854775807 := by omega
  have s1 : -9223372036854775808 ≤ r + y := by omega
  have s2 : r + y ≤ 9223372036854775807 := by omega
  have y1 : -9223372036854775808 ≤ -y := by omega
  have y2 : -y ≤ 9223372036854775807 := by omega
  have f0 : (y == 0) = false := by simp <;> omega
  have f1 : decide (y < 0) = false := by simp <;> omega
  have f2 : decide (0 < y) = true := by simp <;> omega
  have f3 : (y == -9223372036854775808) = false := by simp <;> omega
  have f4 : decide (x < 0) = true := by simp <;> omega
  have f5 : (x == -9223372036854775808) = false := by simp <;> omega
  have f6 : (r != 0) = true := by simp <;> omega
  have f7 : decide (r < 0) = true := by simp <;> omega
  have f8 : (q != 0) = false := by simp <;> omega
  have f9 : decide (q < 0) = false := by simp <;> omega
  have f10 : (m != 0) = true := by simp <;> omega
  have f11 : decide (m < 0) = false := by simp <;> omega
  have f12 : decide (y ≤ m) = false := by simp <;> omega
  have f13 : (r == m) = false := by simp <;> omega
  have f14 : (r + y == m) = true := by simp <;> omega
  have f15 : decide (-y < r) = true := by simp <;> omega
  have f16 : decide (r < y) = true := by simp <;> omega
  clear cx cx' cy cr cq cm hl zn
  go_enter Tryd.func6, Tryd.ntmps6
  try simp only [List.append]
  go_wp2_with (first
    | (go_at_call 9; refine HB.out.mono ?_; rintro e w' ⟨rfl, hw⟩)
    | (go_at_call 24; refine (HQ.out _).mono ?_; rintro e w' ⟨rfl, rfl⟩)
    | (go_at_call 25; refine (HM.out _).mono ?_; rintro e w' ⟨rfl, rfl⟩))
  go_ret
  exact ⟨rfl, hw⟩

set_option maxRecDepth 100000 in
set_option maxHeartbeats 1000000 in
theorem div_neg_pos_00 (x y q r m : Int) (w : World) (ht : Tab w) (hx : -9223372036854775808 ≤ x) (hx' : x ≤ 9223372036854775807) (hy : -9223372036854775808 ≤ y) (hy' : y ≤ 9223372036854775807) (zn : ¬ (x = -9223372036854775808 ∧ y = -1))
    (HQ : Hid (∀ w, Calls Tryd.prog 24 #[.int .i64 x, .int .i64 y] w fun e w' => e = .returned (.tuple #[.int .i64 q, .int .i64 0]) ∧ w' = w))
    (HM : Hid (∀ w, Calls Tryd.prog 25 #[.int .i64 x, .int .i64 y] w fun e w' => e = .returned (.tuple #[.int .i64 m, .int .i64 0]) ∧ w' = w))
    (hr : x - q * y = r) (p1 : -9223372036854775808 ≤ q * y) (p2 : q * y ≤ 9223372036854775807) (hl : r.natAbs < y.natAbs) (cx : -9223372036854775808 < x) (cx' : x < 0) (cy : 0 < y) (cr : r < 0) (cq : q < 0) (cm : m = r + y) :
    Calls Tryd.prog 6 #[.int .i64 x, .int .i64 y] w fun e w' => e = .returned (.bool true) ∧ Below w.heap.size w w' := by
  have HB := hide (begun_any w ht)
  clear ht
  have r1 : -9223372036854775808 ≤ r := by omega
  have r2 : r ≤ 9223372036854775807 := by omega
  have s1 : -9223372036854775808 ≤ r + y := by omega
  have s2 : r + y ≤ 9223372036854775807 := by omega
  have y1 : -9223372036854775808 ≤ -y := by omega
  have y2 : -y ≤ 9223372036854775807 := by omega
  have f0 : (y == 0) = false := by simp <;> omega
  have f1 : decide (y < 0) = false := by simp <;> omega
  have f2 : decide (0 < y) = true := by simp <;> omega
  have f3 : (y == -9223372036854775808) = false := by simp <;> omega
  have f4 : decide (x < 0) = true := by simp <;> omega
  have f5 : (x == -9223372036854775808) = false := by simp <;> omega
  have f6 : (r != 0) = true := by simp <;> omega
  have f7 : decide (r < 0) = true := by simp <;> omega
  have f8 : (q != 0) = true := by simp <;> omega
  have f9 : decide (q < 0) = true := by simp <;> omega
  have f10 : (m != 0) = true := by simp <;> omega
  have f11 : decide (m < 0) = false := by simp <;> omega
  have f12 : decide (y ≤ m) = false := by simp <;> omega
  have f13 : (r == m) = false := by simp <;> omega
  have f14 : (r + y == m) = true := by simp <;> omega
  have f15 : decide (-y < r) = true := by simp <;> omega
  have f16 : decide (r < y) = true := by simp <;> omega
  clear cx cx' cy cr cq cm hl zn
  go_enter Tryd.func6, Tryd.ntmps6
  try simp only [List.append]
  go_wp2_with (first
    | (go_at_call 9; refine HB.out.mono ?_; rintro e w' ⟨rfl, hw⟩)
    | (go_at_call 24; refine (HQ.out _).mono ?_; rintro e w' ⟨rfl, rfl⟩)
    | (go_at_call 25; refine (HM.out _).mono ?_; rintro e w' ⟨rfl, rfl⟩))
  go_ret
  exact ⟨rfl, hw⟩

set_option maxRecDepth 100000 in
set_option maxHeartbeats 1000000 in
theorem div_nonneg_least_11 (x y q r m : Int) (w : World) (ht : Tab w) (hx : -9223372036854775808 ≤ x) (hx' : x ≤ 9223372036854775807) (hy : -9223372036854775808 ≤ y) (hy' : y ≤ 9223372036854775807) (zn : ¬ (x = -9223372036854775808 ∧ y = -1))
    (HQ : Hid (∀ w, Calls Tryd.prog 24 #[.int .i64 x, .int .i64 y] w fun e w' => e = .returned (.tuple #[.int .i64 q, .int .i64 0]) ∧ w' = w))
    (HM : Hid (∀ w, Calls Tryd.prog 25 #[.int .i64 x, .int .i64 y] w fun e w' => e = .returned (.tuple #[.int .i64 m, .int .i64 0]) ∧ w' = w))
    (hr : x - q * y = r) (p1 : -9223372036854775808 ≤ q * y) (p2 : q * y ≤ 9223372036854775807) (hl : r.natAbs < y.natAbs) (cx : 0 ≤ x) (cy : y = -9223372036854775808) (cr : r = 0) (cq : q = 0) (cm : m = r) :
    Calls Tryd.prog 6 #[.int .i64 x, .int .i64 y] w fun e w' => e = .returned (.bool true) ∧ Below w.heap.size w w' := by
  have HB := hide (begun_any w ht)
  clear ht
  have r1 : -9223372036854775808 ≤ r := by omega
  have r2 : r ≤ 9223372036854775807 := by omega
  have f0 : (y == 0) = false := by simp <;> omega
  have f1 : decide (y < 0) = true := by simp <;> omega
  have f2 : decide (0 < y) = false := by simp <;> omega
  have f3 : (y == -9223372036854775808) = true := by simp <;> omega
  have f4 : decide (x < 0) = false := by simp <;> omega
  have f5 : (x == -9223372036854775808) = false := by simp <;> omega
  have f6 : (r != 0) = false := by simp <;> omega
  have f7 : decide (r < 0) = false := by simp <;> omega
  have f8 : (q != 0) = false := by simp <;> omega
  have f9 : decide (q < 0) = false := by simp <;> omega
  have f10 : (m != 0) = false := by simp <;> omega
  have f11 : decide (m < 0) = false := by simp <;> omega
  have f12 : decide (m ≤ y) = false := by simp <;> omega
  have f13 : (r == m) = true := by simp <;> omega
  have f14 : decide (y < r) = true := by simp <;> omega
  clear cx cy cr cq cm hl zn
  go_enter Tryd.func6, Tryd.ntmps6
  try simp only [List.append]
  go_wp2_with (first
    | (go_at_call 9; refine HB.out.mono ?_; rintro e w' ⟨rfl, hw⟩)
    | (go_at_call 24; refine (HQ.out _).mono ?_; rintro e w' ⟨rfl, rfl⟩)
    | (go_at_call 25; refine (HM.out _).mono ?_; rintro e w' ⟨rfl, rfl⟩))
  go_ret
  exact ⟨rfl, hw⟩

set_option maxRecDepth 100000 in
set_option maxHeartbeats 1000000 in
theorem div_nonneg_least_10 (x y q r m : Int) (w : World) (ht : Tab w) (hx : -9223372036854775808 ≤ x) (hx' : x ≤ 9223372036854775807) (hy : -9223372036854775808 ≤ y) (hy' : y ≤ 9223372036854775807) (zn : ¬ (x = -9223372036854775808 ∧ y = -1))
    (HQ : Hid (∀ w, Calls Tryd.prog 24 #[.int .i64 x, .int .i64 y] w fun e w' => e = .returned (.tuple #[.int .i64 q, .int .i64 0]) ∧ w' = w))
    (HM : Hid (∀ w, Calls Tryd.prog 25 #[.int .i64 x, .int .i64 y] w fun e w' => e = .returned (.tuple #[.int .i64 m, .int .i64 0]) ∧ w' = w))
    (hr : x - q * y = r) (p1 : -9223372036854775808 ≤ q * y) (p2 : q * y ≤ 9223372036854775807) (hl : r.natAbs < y.natAbs) (cx : 0 ≤ x) (cy : y = -9223372036854775808) (cr : r = 0) (cq : q < 0) (cm : m = r) :
    Calls Tryd.prog 6 #[.int .i64 x, .int .i64 y] w fun e w' => e = .returned (.bool true) ∧ Below w.heap.size w w' := by
  have HB := hide (begun_any w ht)
  clear ht
  have r1 : -9223372036854775808 ≤ r := by omega
  have r2 : r ≤ 9223372036854775807 := by omega
  have f0 : (y == 0) = false := by simp <;> omega
  have f1 : decide (y < 0) = true := by simp <;> omega
  have f2 : decide (0 < y) = false := by simp <;> omega
  have f3 : (y == -9223372036854775808) = true := by simp <;> omega
  have f4 : decide (x < 0) = false := by simp <;> omega
  have f5 : (x == -9223372036854775808) = false := by simp <;> omega
  have f6 : (r != 0) = false := by simp <;> omega
  have f7 : decide (r < 0) = false := by simp <;> omega
  have f8 : (q != 0) = true := by simp <;> omega
  have f9 : decide (q < 0) = true := by simp <;> omega
  have f10 : (m != 0) = false := by simp <;> omega
  have f11 : decide (m < 0) = false := by simp <;> omega
  have f12 : decide (m ≤ y) = false := by simp <;> omega
  have f13 : (r == m) = true := by simp <;> omega
  have f14 : decide (y < r) = true := by simp <;> omega
  clear cx cy cr cq cm hl zn
  go_enter Tryd.func6, Tryd.ntmps6
  try simp only [List.append]
  go_wp2_with (first
    | (go_at_call 9; refine HB.out.mono ?_; rintro e w' ⟨rfl, hw⟩)
    | (go_at_call 24; refine (HQ.out _).mono ?_; rintro e w' ⟨rfl, rfl⟩)
    | (go_at_call 25; refine (HM.out _).mono ?_; rintro e w' ⟨rfl, rfl⟩))
  go_ret
  exact ⟨rfl, hw⟩

set_option maxRecDepth 100000 in
set_option maxHeartbeats 1000000 in
theorem div_nonneg_least_01 (x y q r m : Int) (w : World) (ht : Tab w) (hx : -9223372036854775808 ≤ x) (hx' : x ≤ 9223372036854775807) (hy : -9223372036854775808 ≤ y) (hy' : y ≤ 9223372036854775807) (zn : ¬ (x = -9223372036854775808 ∧ y = -1))
    (HQ : Hid (∀ w, Calls Tryd.prog 24 #[.int .i64 x, .int .i64 y] w fun e w' => e = .returned (.tuple #[.int .i64 q, .int .i64 0]) ∧ w' = w))
    (HM : Hid (∀ w, Calls Tryd.prog 25 #[.int .i64 x, .int .i64 y] w fun e w' => e = .returned (.tuple #[.int .i64 m, .int .i64 0]) ∧ w' = w))
    (hr : x - q * y = r) (p1 : -9223372036854775808 ≤ q * y) (p2 : q * y ≤ 9223372036854775807) (hl : r.natAbs < y.natAbs) (cx : 0 ≤ x) (cy : y = -9223372036854775808) (cr : 0 < r) (cq : q = 0) (cm : m = r + y) :
    Calls Tryd.prog 6 #[.int .i64 x, .int .i64 y] w fun e w' => e = .returned (.bool true) ∧ Below w.heap.size w w' := by
  have HB := hide (begun_any w ht)
  clear ht
  have r1 : -9223372036854775808 ≤ r := by omega
  have r2 : r ≤ 9223372036854775807 := by omega
  have s1 : -9223372036854775808 ≤ r + y := by omega
  have s2 : r + y ≤ 9223372036854775807 := by omega
  have f0 : (y == 0) = false := by simp <;> omega
  have f1 : decide (y < 0) = true := by simp <;> omega
  have f2 : decide (0 < y) = false := by simp <;> omega
  have f3 : (y == -9223372036854775808) = true := by simp <;> omega
  have f4 : decide (x < 0) = false := by simp <;> omega
  have f5 : (x == -9223372036854775808) = false := by simp <;> omega
  have f6 : (r != 0) = true := by simp <;> omega
  have f7 : decide (r < 0) = false := by simp <;> omega
  have f8 : (q != 0) = false := by simp <;> omega
  have f9 : decide (q < 0) = false := by simp <;> omega
  have f10 : (m != 0) = true := by simp <;> omega
  have f11 : decide (m < 0) = true := by simp <;> omega
  have f12 : decide (m ≤ y) = false := by simp <;> omega
  have f13 : (r == m) = false := by simp <;> omega
  have f14 : (r + y == m) = true := by simp <;> omega
  have f15 : decide (y < r) = true := by simp <;> omega
  clear cx cy cr cq cm hl zn
  go_enter Tryd.func6, Tryd.ntmps6
  try simp only [List.append]
  go_wp2_with (first
    | (go_at_call 9; refine HB.out.mono ?_; rintro e w' ⟨rfl, hw⟩)
    | (go_at_call 24; refine (HQ.out _).mono ?_; rintro e w' ⟨rfl, rfl⟩)
    | (go_at_call 25; refine (HM.out _).mono ?_; rintro e w' ⟨rfl, rfl⟩))
  go_ret
  exact ⟨rfl, hw⟩

set_option maxRecDepth 100000 in
set_option maxHeartbeats 1000000 in
theorem div_nonneg_least_00 (x y q r m : Int) (w : World) (ht : Tab w) (hx : -9223372036854775808 ≤ x) (hx' : x ≤ 9223372036854775807) (hy : -9223372036854775808 ≤ y) (hy' : y ≤ 9223372036854775807) (zn : ¬ (x = -9223372036854775808 ∧ y = -1))
    (HQ : Hid (∀ w, Calls Tryd.prog 24 #[.int .i64 x, .int .i64 y] w fun e w' => e = .returned (.tuple #[.int .i64 q, .int .i64 0]) ∧ w' = w))
    (HM : Hid (∀ w, Calls Tryd.prog 25 #[.int .i64 x, .int .i64 y] w fun e w' => e = .returned (.tuple #[.int .i64 m, .int .i64 0]) ∧ w' = w))
    (hr : x - q * y = r) (p1 : -9223372036854775808 ≤ q * y) (p2 : q * y ≤ 9223372036854775807) (hl : r.natAbs < y.natAbs) (cx : 0 ≤ x) (cy : y = -9223372036854775808) (cr : 0 < r) (cq : q < 0) (cm : m = r + y) :
    Calls Tryd.prog 6 #[.int .i64 x, .int .i64 y] w fun e w' => e = .returned (.bool true) ∧ Below w.heap.size w w' := by
  have HB := hide (begun_any w ht)
  clear ht
  have r1 : -9223372036854775808 ≤ r := by omega
  have r2 : r ≤ 9223372036854775807 := by omega
  have s1 : -9223372036854775808 ≤ r + y := by omega
  have s2 : r + y ≤ 9223372036854775807 := by omega
  have f0 : (y == 0) = false := by simp <;> omega
  have f1 : decide (y < 0) = true := by simp <;> omega
  have f2 : decide (0 < y) = false := by simp <;> omega
  have f3 : (y == -9223372036854775808) = true := by simp <;> omega
  have f4 : decide (x < 0) = false := by simp <;> omega
  have f5 : (x == -9223372036854775808) = false := by simp <;> omega
  have f6 : (r != 0) = true := by simp <;> omega
  have f7 : decide (r < 0) = false := by simp <;> omega
  have f8 : (q != 0) = true := by simp <;> omega
  have f9 : decide (q < 0) = true := by simp <;> omega
  have f10 : (m != 0) = true := by simp <;> omega
  have f11 : decide (m < 0) = true := by simp <;> omega
  have f12 : decide (m ≤ y) = false := by simp <;> omega
  have f13 : (r == m) = false := by simp <;> omega
  have f14 : (r + y == m) = true := by simp <;> omega
  have f15 : decide (y < r) = true := by simp <;> omega
  clear cx cy cr cq cm hl zn
  go_enter Tryd.func6, Tryd.ntmps6
  try simp only [List.append]
  go_wp2_with (first
    | (go_at_call 9; refine HB.out.mono ?_; rintro e w' ⟨rfl, hw⟩)
    | (go_at_call 24; refine (HQ.out _).mono ?_; rintro e w' ⟨rfl, rfl⟩)
    | (go_at_call 25; refine (HM.out _).mono ?_; rintro e w' ⟨rfl, rfl⟩))
  go_ret
  exact ⟨rfl, hw⟩

set_option maxRecDepth 100000 in
set_option maxHeartbeats 1000000 in
theorem div_nonneg_neg_11 (x y q r m : Int) (w : World) (ht : Tab w) (hx : -9223372036854775808 ≤ x) (hx' : x ≤ 9223372036854775807) (hy : -9223372036854775808 ≤ y) (hy' : y ≤ 9223372036854775807) (zn : ¬ (x = -9223372036854775808 ∧ y = -1))
    (HQ : Hid (∀ w, Calls Tryd.prog 24 #[.int .i64 x, .int .i64 y] w fun e w' => e = .returned (.tuple #[.int .i64 q, .int .i64 0]) ∧ w' = w))
    (HM : Hid (∀ w, Calls Tryd.prog 25 #[.int .i64 x, .int .i64 y] w fun e w' => e = .returned (.tuple #[.int .i64 m, .int .i64 0]) ∧ w' = w))
    (hr : x - q * y = r) (p1 : -9223372036854775808 ≤ q * y) (p2 : q * y ≤ 9223372036854775807) (hl : r.natAbs < y.natAbs) (cx : 0 ≤ x) (cy : -9223372036854775808 < y) (cy' : y < 0) (cr : r = 0) (cq : q = 0) (cm : m = r) :
    Calls Tryd.prog 6 #[.int .i64 x, .int .i64 y] w fun e w' => e = .returned (.bool true) ∧ Below w.heap.size w w' := by
  have HB := hide (begun_any w ht)
  clear ht
  have r1 : -9223372036854775808 ≤ r := by omega
  have r2 : r ≤ 9223372036854775807 := by omega
  have y1 : -9223372036854775808 ≤ -y := by omega
  have y2 : -y ≤ 9223372036854775807 := by omega
  have f0 : (y == 0) = false := by simp <;> omega
  have f1 : decide (y < 0) = true := by simp <;> omega
  have f2 : decide (0 < y) = false := by simp <;> omega
  have f3 : (y == -9223372036854775808) = false := by simp <;> omega
  have f4 : decide (x < 0) = false := by simp <;> omega
  have f5 : (x == -9223372036854775808) = false := by simp <;> omega
  have f6 : (r != 0) = false := by simp <;> omega
  have f7 : decide (r < 0) = false := by simp <;> omega
  have f8 : (q != 0) = false := by simp <;> omega
  have f9 : decide (q < 0) = false := by simp <;> omega
  have f10 : (m != 0) = false := by simp <;> omega
  have f11 : decide (m < 0) = false := by simp <;> omega
  have f12 : decide (m ≤ y) = false := by simp <;> omega
  have f13 : (r == m) = true := by simp <;> omega
  have f14 : decide (y < r) = true := by simp <;> omega
  have f15 : decide (r < -y) = true := by simp <;> omega
  clear cx cy cy' cr cq cm hl zn
  go_enter Tryd.func6, Tryd.ntmps6
  try simp only [List.append]
  go_wp2_with (first
    | (go_at_call 9; refine HB.out.mono ?_; rintro e w' ⟨rfl, hw⟩)
    | (go_at_call 24; refine (HQ.out _).mono ?_; rintro e w' ⟨rfl, rfl⟩)
    | (go_at_call 25; refine (HM.out _).mono ?_; rintro e w' ⟨rfl, rfl⟩))
  go_ret
  exact ⟨rfl, hw⟩

set_option maxRecDepth 100000 in
set_option maxHeartbeats 1000000 in
theorem div_nonneg_neg_10 (x y q r m : Int) (w : World) (ht : Tab w) (hx : -9223372036854775808 ≤ x) (hx' : x ≤ 9223372036854775807) (hy : -9223372036854775808 ≤ y) (hy' : y ≤ 9223372036854775807) (zn : ¬ (x = -9223372036854775808 ∧ y = -1))
    (HQ : Hid (∀ w, Calls Tryd.prog 24 #[.int .i64 x, .int .i64 y] w fun e w' => e = .returned (.tuple #[.int .i64 q, .int .i64 0]) ∧ w' = w))
    (HM : Hid (∀ w, Calls Tryd.prog 25 #[.int .i64 x, .int .i64 y] w fun e w' => e = .returned (.tuple #[.int .i64 m, .int .i64 0]) ∧ w' = w))
    (hr : x - q * y = r) (p1 : -9223372036854775808 ≤ q * y) (p2 : q * y ≤ 9223372036854775807) (hl : r.natAbs < y.natAbs) (cx : 0 ≤ x) (cy : -9223372036854775808 < y) (cy' : y < 0) (cr : r = 0) (cq : q < 0) (cm : m = r) :
    Calls Tryd.prog 6 #[.int .i64 x, .int .i64 y] w fun e w' => e = .returned (.bool true) ∧ Below w.heap.size w w' := by
  have HB := hide (begun_any w ht)
  clear ht
  have r1 : -9223372036854775808 ≤ r := by omega
  have r2 : r ≤ 9223372036854775807 := by omega
  have y1 : -9223372036854775808 ≤ -y := by omega
  have y2 : -y ≤ 9223372036854775807 := by omega
  have f0 : (y == 0) = false := by simp <;> omega
  have f1 : decide (y < 0) = true := by simp <;> omega
  have f2 : decide (0 < y) = false := by simp <;> omega
  have f3 : (y == -9223372036854775808) = false := by simp <;> omega
  have f4 : decide (x < 0) = false := by simp <;> omega
  have f5 : (x == -9223372036854775808) = false := by simp <;> omega
  have f6 : (r != 0) = false := by simp <;> omega
  have f7 : decide (r < 0) = false := by simp <;> omega
  have f8 : (q != 0) = true := by simp <;> omega
  have f9 : decide (q < 0) = true := by simp <;> omega
  have f10 : (m != 0) = false := by simp <;> omega
  have f11 : decide (m < 0) = false := by simp <;> omega
  have f12 : decide (m ≤ y) = false := by simp <;> omega
  have f13 : (r == m) = true := by simp <;> omega
  have f14 : decide (y < r) = true := by simp <;> omega
  have f15 : decide (r < -y) = true := by simp <;> omega
  clear cx cy cy' cr cq cm hl zn
  go_enter Tryd.func6, Tryd.ntmps6
  try simp only [List.append]
  go_wp2_with (first
    | (go_at_call 9; refine HB.out.mono ?_; rintro e w' ⟨rfl, hw⟩)
    | (go_at_call 24; refine (HQ.out _).mono ?_; rintro e w' ⟨rfl, rfl⟩)
    | (go_at_call 25; refine (HM.out _).mono ?_; rintro e w' ⟨rfl, rfl⟩))
  go_ret
  exact ⟨rfl, hw⟩

set_option maxRecDepth 100000 in
set_option maxHeartbeats 1000000 in
theorem div_nonneg_neg_01 (x y q r m : Int) (w : World) (ht : Tab w) (hx : -9223372036854775808 ≤ x) (hx' : x ≤ 9223372036854775807) (hy : -9223372036854775808 ≤ y) (hy' : y ≤ 9223372036854775807) (zn : ¬ (x = -9223372036854775808 ∧ y = -1))
    (HQ : Hid (∀ w, Calls Tryd.prog 24 #[.int .i64 x, .int .i64 y] w fun e w' => e = .returned (.tuple #[.int .i64 q, .int .i64 0]) ∧ w' = w))
    (HM : Hid (∀ w, Calls Tryd.prog 25 #[.int .i64 x, .int .i64 y] w fun e w' => e = .returned (.tuple #[.int .i64 m, .int .i64 0]) ∧ w' = w))
    (hr : x - q * y = r) (p1 : -9223372036854775808 ≤ q * y) (p2 : q * y ≤ 9223372036854775807) (hl : r.natAbs < y.natAbs) (cx : 0 ≤ x) (cy : -9223372036854775808 < y) (cy' : y < 0) (cr : 0 < r) (cq : q = 0) (cm : m = r + y) :
    Calls Tryd.prog 6 #[.int .i64 x, .int .i64 y] w fun e w' => e = .returned (.bool true) ∧ Below w.heap.size w w' := by
  have HB := hide (begun_any w ht)
  clear ht
  have r1 : -9223372036854775808 ≤ r := by omega
  have r2 : r ≤ 9223372036854775807 := by omega
  have s1 : -9223372036854775808 ≤ r + y := by omega
  have s2 : r + y ≤ 9223372036854775807 := by omega
  have y1 : -9223372036854775808 ≤ -y := by omega
  have y2 : -y ≤ 9223372036854775807 := by omega
  have f0 : (y == 0) = false := by simp <;> omega
  have f1 : decide (y < 0) = true := by simp <;> omega
  have f2 : decide (0 < y) = false := by simp <;> omega
  have f3 : (y == -9223372036854775808) = false := by simp <;> omega
  have f4 : decide (x < 0) = false := by simp <;> omega
  have f5 : (x == -9223372036854775808) = false := by simp <;> omega
  have f6 : (r != 0) = true := by simp <;> omega
  have f7 : decide (r < 0) = false := by simp <;> omega
  have f8 : (q != 0) = false := by simp <;> omega
  have f9 : decide (q < 0) = false := by simp <;> omega
  have f10 : (m != 0) = true := by simp <;> omega
  have f11 : decide (m < 0) = true := by simp <;> omega
  have f12 : decide (m ≤ y) = false := by simp <;> omega
  have f13 : (r == m) = false := by simp <;> omega
  have f14 : (r + y == m) = true := by simp <;> omega
  have f15 : decide (y < r) = true := by simp <;> omega
  have f16 : decide (r < -y) = true := by simp <;> omega
  clear cx cy cy' cr cq cm hl zn
  go_enter Tryd.func6, Tryd.ntmps6
  try simp only [List.append]
  go_wp2_with (first
    | (go_at_call 9; refine HB.out.mono ?_; rintro e w' ⟨rfl, hw⟩)
    | (go_at_call 24; refine (HQ.out _).mono ?_; rintro e w' ⟨rfl, rfl⟩)
    | (go_at_call 25; refine (HM.out _).mono ?_; rintro e w' ⟨rfl, rfl⟩))
  go_ret
  exact ⟨rfl, hw⟩

set_option maxRecDepth 100000 in
set_option maxHeartbeats 1000000 in
theorem div_nonneg_neg_00 (x y q r m : Int) (w : World) (ht : Tab w) (hx : -9223372036854775808 ≤ x) (hx' : x ≤ 9223372036854775807) (hy : -9223372036854775808 ≤ y) (hy' : y ≤ 9223372036854775807) (zn : ¬ (x = -9223372036854775808 ∧ y = -1))
    (HQ : Hid (∀ w, Calls Tryd.prog 24 #[.int .i64 x, .int .i64 y] w fun e w' => e = .returned (.tuple #[.int .i64 q, .int .i64 0]) ∧ w' = w))
    (HM : Hid (∀ w, Calls Tryd.prog 25 #[.int .i64 x, .int .i64 y] w fun e w' => e = .returned (.tuple #[.int .i64 m, .int .i64 0]) ∧ w' = w))
    (hr : x - q * y = r) (p1 : -9223372036854775808 ≤ q * y) (p2 : q * y ≤ 9223372036854775807) (hl : r.natAbs < y.natAbs) (cx : 0 ≤ x) (cy : -9223372036854775808 < y) (cy' : y < 0) (cr : 0 < r) (cq : q < 0) (cm : m = r + y) :
    Calls Tryd.prog 6 #[.int .i64 x, .int .i64 y] w fun e w' => e = .returned (.bool true) ∧ Below w.heap.size w w' := by
  have HB := hide (begun_any w ht)
  clear ht
  have r1 : -9223372036854775808 ≤ r := by omega
  have r2 : r ≤ 9223372036854775807 := by omega
  have s1 : -9223372036854775808 ≤ r + y := by omega
  have s2 : r + y ≤ 9223372036854775807 := by omega
  have y1 : -9223372036854775808 ≤ -y := by omega
  have y2 : -y ≤ 9223372036854775807 := by omega
  have f0 : (y == 0) = false := by simp <;> omega
  have f1 : decide (y < 0) = true := by simp <;> omega
  have f2 : decide (0 < y) = false := by simp <;> omega
  have f3 : (y == -9223372036854775808) = false := by simp <;> omega
  have f4 : decide (x < 0) = false := by simp <;> omega
  have f5 : (x == -9223372036854775808) = false := by simp <;> omega
  have f6 : (r != 0) = true := by simp <;> omega
  have f7 : decide (r < 0) = false := by simp <;> omega
  have f8 : (q != 0) = true := by simp <;> omega
  have f9 : decide (q < 0) = true := by simp <;> omega
  have f10 : (m != 0) = true := by simp <;> omega
  have f11 : decide (m < 0) = true := by simp <;> omega
  have f12 : decide (m ≤ y) = false := by simp <;> omega
  have f13 : (r == m) = false := by simp <;> omega
  have f14 : (r + y == m) = true := by simp <;> omega
  have f15 : decide (y < r) = true := by simp <;> omega
  have f16 : decide (r < -y) = true := by simp <;> omega
  clear cx cy cy' cr cq cm hl zn
  go_enter Tryd.func6, Tryd.ntmps6
  try simp only [List.append]
  go_wp2_with (first
    | (go_at_call 9; refine HB.out.mono ?_; rintro e w' ⟨rfl, hw⟩)
    | (go_at_call 24; refine (HQ.out _).mono ?_; rintro e w' ⟨rfl, rfl⟩)
    | (go_at_call 25; refine (HM.out _).mono ?_; rintro e w' ⟨rfl, rfl⟩))
  go_ret
  exact ⟨rfl, hw⟩

set_option maxRecDepth 100000 in
set_option maxHeartbeats 1000000 in
theorem div_nonneg_pos_11 (x y q r m : Int) (w : World) (ht : Tab w) (hx : -9223372036854775808 ≤ x) (hx' : x ≤ 9223372036854775807) (hy : -9223372036854775808 ≤ y) (hy' : y ≤ 9223372036854775807) (zn : ¬ (x = -9223372036854775808 ∧ y = -1))
    (HQ : Hid (∀ w, Calls Tryd.prog 24 #[.int .i64 x, .int .i64 y] w fun e w' => e = .returned (.tuple #[.int .i64 q, .int .i64 0]) ∧ w' = w))
    (HM : Hid (∀ w, Calls Tryd.prog 25 #[.int .i64 x, .int .i64 y] w fun e w' => e = .returned (.tuple #[.int .i64 m, .int .i64 0]) ∧ w' = w))
    (hr : x - q * y = r) (p1 : -9223372036854775808 ≤ q * y) (p2 : q * y ≤ 9223372036854775807) (hl : r.natAbs < y.natAbs) (cx : 0 ≤ x) (cy : 0 < y) (cr : r = 0) (cq : q = 0) (cm : m = r) :
    Calls Tryd.prog 6 #[.int .i64 x, .int .i64 y] w fun e w' => e = .returned (.bool true) ∧ Below w.heap.size w w' := by
  have HB := hide (begun_any w ht)
  clear ht
  have r1 : -9223372036854775808 ≤ r := by omega
  have r2 : r ≤ 9223372036854775807 := by omega
  have y1 : -9223372036854775808 ≤ -y := by omega
  have y2 : -y ≤ 9223372036854775807 := by omega
  have f0 : (y == 0) = false := by simp <;> omega
  have f1 : decide (y < 0) = false := by simp <;> omega
  have f2 : decide (0 < y) = true := by simp <;> omega
  have f3 : (y == -9223372036854775808) = false := by simp <;> omega
  have f4 : decide (x < 0) = false := by simp <;> omega
  have f5 : (x == -9223372036854775808) = false := by simp <;> omega
  have f6 : (r != 0) = false := by simp <;> omega
  have f7 : decide (r < 0) = false := by simp <;> omega
  have f8 : (q != 0) = false := by simp <;> omega
  have f9 : decide (q < 0) = false := by simp <;> omega
  have f10 : (m != 0) = false := by simp <;> omega
  have f11 : decide (m < 0) = false := by simp <;> omega
  have f12 : decide (y ≤ m) = false := by simp <;> omega
  have f13 : (r == m) = true := by simp <;> omega
  have f14 : decide (-y < r) = true := by simp <;> omega
  have f15 : decide (r < y) = true := by simp <;> omega
  clear cx cy cr cq cm hl zn
  go_enter Tryd.func6, Tryd.ntmps6
  try simp only [List.append]
  go_wp2_with (first
    | (go_at_call 9; refine HB.out.mono ?_; rintro e w' ⟨rfl, hw⟩)
    | (go_at_call 24; refine (HQ.out _).mono ?_; rintro e w' ⟨rfl, rfl⟩)
    | (go_at_call 25; refine (HM.out _).mono ?_; rintro e w' ⟨rfl, rfl⟩))
  go_ret
  exact ⟨rfl, hw⟩

set_option maxRecDepth 100000 in
set_option maxHeartbeats 1000000 in
theorem div_nonneg_pos_10 (x y q r m : Int) (w : World) (ht : Tab w) (hx : -9223372036854775808 ≤ x) (hx' : x ≤ 9223372036854775807) (hy : -9223372036854775808 ≤ y) (hy' : y ≤ 9223372036854775807) (zn : ¬ (x = -9223372036854775808 ∧ y = -1))
    (HQ : Hid (∀ w, Calls Tryd.prog 24 #[.int .i64 x, .int .i64 y] w fun e w' => e = .returned (.tuple #[.int .i64 q, .int .i64 0]) ∧ w' = w))
    (HM : Hid (∀ w, Calls Tryd.prog 25 #[.int .i64 x, .int .i64 y] w fun e w' => e = .returned (.tuple #[.int .i64 m, .int .i64 0]) ∧ w' = w))
    (hr : x - q * y = r) (p1 : -9223372036854775808 ≤ q * y) (p2 : q * y ≤ 9223372036854775807) (hl : r.natAbs < y.natAbs) (cx : 0 ≤ x) (cy : 0 < y) (cr : r = 0) (cq : 0 < q) (cm : m = r) :
    Calls Tryd.prog 6 #[.int .i64 x, .int .i64 y] w fun e w' => e = .returned (.bool true) ∧ Below w.heap.size w w' := by
  have HB := hide (begun_any w ht)
  clear ht
  have r1 : -9223372036854775808 ≤ r := by omega
  have r2 : r ≤ 9223372036854775807 := by omega
  have y1 : -9223372036854775808 ≤ -y := by omega
  have y2 : -y ≤ 9223372036854775807 := by omega
  have f0 : (y == 0) = false := by simp <;> omega
  have f1 : decide (y < 0) = false := by simp <;> omega
  have f2 : decide (0 < y) = true := by simp <;> omega
  have f3 : (y == -9223372036854775808) = false := by simp <;> omega
  have f4 : decide (x < 0) = false := by simp <;> omega
  have f5 : (x == -9223372036854775808) = false := by simp <;> omega
  have f6 : (r != 0) = false := by simp <;> omega
  have f7 : decide (r < 0) = false := by simp <;> omega
  have f8 : (q != 0) = true := by simp <;> omega
  have f9 : decide (q < 0) = false := by simp <;> omega
  have f10 : (m != 0) = false := by simp <;> omega
  have f11 : decide (m < 0) = false := by simp <;> omega
  have f12 : decide (y ≤ m) = false := by simp <;> omega
  have f13 : (r == m) = true := by simp <;> omega
  have f14 : decide (-y < r) = true := by simp <;> omega
  have f15 : decide (r < y) = true := by simp <;> omega
  clear cx cy cr cq cm hl zn
  go_enter Tryd.func6, Tryd.ntmps6
  try simp only [List.append]
  go_wp2_with (first
    | (go_at_call 9; refine HB.out.mono ?_; rintro e w' ⟨rfl, hw⟩)
    | (go_at_call 24; refine (HQ.out _).mono ?_; rintro e w' ⟨rfl, rfl⟩)
    | (go_at_call 25; refine (HM.out _).mono ?_; rintro e w' ⟨rfl, rfl⟩))
  go_ret
  exact ⟨rfl, hw⟩

set_option maxRecDepth 100000 in
set_option maxHeartbeats 1000000 in
theorem div_nonneg_pos_01 (x y q r m : Int) (w : World) (ht : Tab w) (hx : -9223372036854775808 ≤ x) (hx' : x ≤ 9223372036854775807) (hy : -9223372036854775808 ≤ y) (hy' : y ≤ 9223372036854775807) (zn : ¬ (x = -9223372036854775808 ∧ y = -1))
    (HQ : Hid (∀ w, Calls Tryd.prog 24 #[.int .i64 x, .int .i64 y] w fun e w' => e = .returned (.tuple #[.int .i64 q, .int .i64 0]) ∧ w' = w))
    (HM : Hid (∀ w, Calls Tryd.prog 25 #[.int .i64 x, .int .i64 y] w fun e w' => e = .returned (.tuple #[.int .i64 m, .int .i64 0]) ∧ w' = w))
    (hr : x - q * y = r) (p1 : -9223372036854775808 ≤ q * y) (p2 : q * y ≤ 9223372036854775807) (hl : r.natAbs < y.natAbs) (cx : 0 ≤ x) (cy : 0 < y) (cr : 0 < r) (cq : q = 0) (cm : m = r) :
    Calls Tryd.prog 6 #[.int .i64 x, .int .i64 y] w fun e w' => e = .returned (.bool true) ∧ Below w.heap.size w w' := by
  have HB := hide (begun_any w ht)
  clear ht
  have r1 : -9223372036854775808 ≤ r := by omega
  have r2 : r ≤ 9223372036854775807 := by omega
  have y1 : -9223372036854775808 ≤ -y := by omega
  have y2 : -y ≤ 9223372036854775807 := by omega
  have f0 : (y == 0) = false := by simp <;> omega
  have f1 : decide (y < 0) = false := by simp <;> omega
  have f2 : decide (0 < y) = true := by simp <;> omega
  have f3 : (y == -9223372036854775808) = false := by simp <;> omega
  have f4 : decide (x < 0) = false := by simp <;> omega
  have f5 : (x == -9223372036854775808) = false := by simp <;> omega
  have f6 : (r != 0) = true := by simp <;> omega
  have f7 : decide (r < 0) = false := by simp <;> omega
  have f8 : (q != 0) = false := by simp <;> omega
  have f9 : decide (q < 0) = false := by simp <;> omega
  have f10 : (m != 0) = true := by simp <;> omega
  have f11 : decide (m < 0) = false := by simp <;> omega
  have f12 : decide (y ≤ m) = false := by simp <;> omega
  have f13 : (r == m) = true := by simp <;> omega
  have f14 : decide (-y < r) = true := by simp <;> omega
  have f15 : decide (r < y) = true := by simp <;> omega
  clear cx cy cr cq cm hl zn
  go_enter Tryd.func6, Tryd.ntmps6
  try simp only [List.append]
  go_wp2_with (first
    | (go_at_call 9; refine HB.out.mono ?_; rintro e w' ⟨rfl, hw⟩)
    | (go_at_call 24; refine (HQ.out _).mono ?_; rintro e w' ⟨rfl, rfl⟩)
    | (go_at_call 25; refine (HM.out _).mono ?_; rintro e w' ⟨rfl, rfl⟩))
  go_ret
  exact ⟨rfl, hw⟩

set_option maxRecDepth 100000 in
set_option maxHeartbeats 1000000 in
theorem div_nonneg_pos_00 (x y q r m : Int) (w : World) (ht : Tab w) (hx : -9223372036854775808 ≤ x) (hx' : x ≤ 9223372036854775807) (hy : -9223372036854775808 ≤ y) (hy' : y ≤ 9223372036854775807) (zn : ¬ (x = -9223372036854775808 ∧ y = -1))
    (HQ : Hid (∀ w, Calls Tryd.prog 24 #[.int .i64 x, .int .i64 y] w fun e w' => e = .returned (.tuple #[.int .i64 q, .int .i64 0]) ∧ w' = w))
    (HM : Hid (∀ w, Calls Tryd.prog 25 #[.int .i64 x, .int .i64 y] w fun e w' => e = .returned (.tuple #[.int .i64 m, .int .i64 0]) ∧ w' = w))
    (hr : x - q * y = r) (p1 : -9223372036854775808 ≤ q * y) (p2 : q * y ≤ 9223372036854775807) (hl : r.natAbs < y.natAbs) (cx : 0 ≤ x) (cy : 0 < y) (cr : 0 < r) (cq : 0 < q) (cm : m = r) :
    Calls Tryd.prog 6 #[.int .i64 x, .int .i64 y] w fun e w' => e = .returned (.bool true) ∧ Below w.heap.size w w' := by
  have HB := hide (begun_any w ht)
  clear ht
  have r1 : -9223372036854775808 ≤ r := by omega
  have r2 : r ≤ 9223372036854775807 := by omega
  have y1 : -9223372036854775808 ≤ -y := by omega
  have y2 : -y ≤ 9223372036854775807 := by omega
  have f0 : (y == 0) = false := by simp <;> omega
  have f1 : decide (y < 0) = false := by simp <;> omega
  have f2 : decide (0 < y) = true := by simp <;> omega
  have f3 : (y == -9223372036854775808) = false := by simp <;> omega
  have f4 : decide (x < 0) = false := by simp <;> omega
  have f5 : (x == -9223372036854775808) = false := by simp <;> omega
  have f6 : (r != 0) = true := by simp <;> omega
  have f7 : decide (r < 0) = false := by simp <;> omega
  have f8 : (q != 0) = true := by simp <;> omega
  have f9 : decide (q < 0) = false := by simp <;> omega
  have f10 : (m != 0) = true := by simp <;> omega
  have f11 : decide (m < 0) = false := by simp <;> omega
  have f12 : decide (y ≤ m) = false := by simp <;> omega
  have f13 : (r == m) = true := by simp <;> omega
  have f14 : decide (-y < r) = true := by simp <;> omega
  have f15 : decide (r < y) = true := by simp <;> omega
  clear cx cy cr cq cm hl zn
  go_enter Tryd.func6, Tryd.ntmps6
  try simp only [List.append]
  go_wp2_with (first
    | (go_at_call 9; refine HB.out.mono ?_; rintro e w' ⟨rfl, hw⟩)
    | (go_at_call 24; refine (HQ.out _).mono ?_; rintro e w' ⟨rfl, rfl⟩)
    | (go_at_call 25; refine (HM.out _).mono ?_; rintro e w' ⟨rfl, rfl⟩))
  go_ret
  exact ⟨rfl, hw⟩

theorem numDivides_walk (x y : Int) (w : World) (hx : -9223372036854775808 ≤ x) (hx' : x ≤ 9223372036854775807) (hy : -9223372036854775808 ≤ y) (hy' : y ≤ 9223372036854775807) (ht : Tab w) :
    Calls Tryd.prog 6 #[.int .i64 x, .int .i64 y] w fun e w' => e = .returned (.bool true) ∧ Below w.heap.size w w' := by
  by_cases zy : y = 0
  · subst zy; exact div_zero x w ht
  by_cases zn : x = -9223372036854775808 ∧ y = -1
  · obtain ⟨rfl, rfl⟩ := zn; exact div_least w ht
  obtain ⟨q, hq⟩ : ∃ q, x.tdiv y = q := ⟨_, rfl⟩
  obtain ⟨r, hr⟩ : ∃ r, x.tmod y = r := ⟨_, rfl⟩
  have HQ := hide (fun w => quo_ok x y q w hq hx hx' zy zn)
  have HM := hide (fun w => mod_ok x y r w hr hy hy' zy)
  have e1 := tmod_eq x y
  have hl := tmod_bd x y zy
  have hs := tmod_sign x y
  rw [hq, hr] at e1
  rw [hr] at hl hs
  have qs : (q = 0 ∨ (q < 0 ∧ ¬ (x < 0 ↔ y < 0)) ∨ (0 < q ∧ (x < 0 ↔ y < 0))) := quo_sign x y q r e1 hs hl
  have pb : -9223372036854775808 ≤ q * y ∧ q * y ≤ 9223372036854775807 := by omega
  obtain ⟨p1, p2⟩ := pb
  clear hq hr
  have cx : x = -9223372036854775808 ∨ (-9223372036854775808 < x ∧ x < 0) ∨ 0 ≤ x := by omega
  have cy : y = -9223372036854775808 ∨ (-9223372036854775808 < y ∧ y < 0) ∨ 0 < y := by omega
  obtain ⟨m, hm⟩ : ∃ m, modV r y = m := ⟨_, rfl⟩
  rw [hm] at HM
  have hm' := hm
  unfold modV at hm
  by_cases cr : r = 0 <;> by_cases cq : q = 0 <;> rcases cx with cx | ⟨cx, cx'⟩ | cx <;> rcases cy with cy | ⟨cy, cy'⟩ | cy
  · exact div_least_least_11 x y q r m w ht hx hx' hy hy' zn HQ HM e1 p1 p2 hl cx cy cr cq (by rw [if_neg (by omega)] at hm; exact hm.symm)
  · exact div_least_neg_11 x y q r m w ht hx hx' hy hy' zn HQ HM e1 p1 p2 hl cx cy cy' cr cq (by rw [if_neg (by omega)] at hm; exact hm.symm)
  · exact div_least_pos_11 x y q r m w ht hx hx' hy hy' zn HQ HM e1 p1 p2 hl cx cy cr cq (by rw [if_neg (by omega)] at hm; exact hm.symm)
  · exact div_neg_least_11 x y q r m w ht hx hx' hy hy' zn HQ HM e1 p1 p2 hl cx cx' cy cr cq (by rw [if_neg (by omega)] at hm; exact hm.symm)
  · exact div_neg_neg_11 x y q r m w ht hx hx' hy hy' zn HQ HM e1 p1 p2 hl cx cx' cy cy' cr cq (by rw [if_neg (by omega)] at hm; exact hm.symm)
  · exact div_neg_pos_11 x y q r m w ht hx hx' hy hy' zn HQ HM e1 p1 p2 hl cx cx' cy cr cq (by rw [if_neg (by omega)] at hm; exact hm.symm)
  · exact div_nonneg_least_11 x y q r m w ht hx hx' hy hy' zn HQ HM e1 p1 p2 hl cx cy cr cq (by rw [if_neg (by omega)] at hm; exact hm.symm)
  · exact div_nonneg_neg_11 x y q r m w ht hx hx' hy hy' zn HQ HM e1 p1 p2 hl cx cy cy' cr cq (by rw [if_neg (by omega)] at hm; exact hm.symm)
  · exact div_nonneg_pos_11 x y q r m w ht hx hx' hy hy' zn HQ HM e1 p1 p2 hl cx cy cr cq (by rw [if_neg (by omega)] at hm; exact hm.symm)
  · exact div_least_least_10 x y q r m w ht hx hx' hy hy' zn HQ HM e1 p1 p2 hl cx cy cr (by omega) (by rw [if_neg (by omega)] at hm; exact hm.symm)
  · exact div_least_neg_10 x y q r m w ht hx hx' hy hy' zn HQ HM e1 p1 p2 hl cx cy cy' cr (by omega) (by rw [if_neg (by omega)] at hm; exact hm.symm)
  · exact div_least_pos_10 x y q r m w ht hx hx' hy hy' zn HQ HM e1 p1 p2 hl cx cy cr (by omega) (by rw [if_neg (by omega)] at hm; exact hm.symm)
  · exact div_neg_least_10 x y q r m w ht hx hx' hy hy' zn HQ HM e1 p1 p2 hl cx cx' cy cr (by omega) (by rw [if_neg (by omega)] at hm; exact hm.symm)
  · exact div_neg_neg_10 x y q r m w ht hx hx' hy hy' zn HQ HM e1 p1 p2 hl cx cx' cy cy' cr (by omega) (by rw [if_neg (by omega)] at hm; exact hm.symm)
  · exact div_neg_pos_10 x y q r m w ht hx hx' hy hy' zn HQ HM e1 p1 p2 hl cx cx' cy cr (by omega) (by rw [if_neg (by omega)] at hm; exact hm.symm)
  · exact div_nonneg_least_10 x y q r m w ht hx hx' hy hy' zn HQ HM e1 p1 p2 hl cx cy cr (by omega) (by rw [if_neg (by omega)] at hm; exact hm.symm)
  · exact div_nonneg_neg_10 x y q r m w ht hx hx' hy hy' zn HQ HM e1 p1 p2 hl cx cy cy' cr (by omega) (by rw [if_neg (by omega)] at hm; exact hm.symm)
  · exact div_nonneg_pos_10 x y q r m w ht hx hx' hy hy' zn HQ HM e1 p1 p2 hl cx cy cr (by omega) (by rw [if_neg (by omega)] at hm; exact hm.symm)
  · exact div_least_least_01 x y q r m w ht hx hx' hy hy' zn HQ HM e1 p1 p2 hl cx cy (by omega) cq (by rw [if_neg (by omega)] at hm; exact hm.symm)
  · exact div_least_neg_01 x y q r m w ht hx hx' hy hy' zn HQ HM e1 p1 p2 hl cx cy cy' (by omega) cq (by rw [if_neg (by omega)] at hm; exact hm.symm)
  · exact div_least_pos_01 x y q r m w ht hx hx' hy hy' zn HQ HM e1 p1 p2 hl cx cy (by omega) cq (by rw [if_pos (by omega)] at hm; exact hm.symm)
  · exact div_neg_least_01 x y q r m w ht hx hx' hy hy' zn HQ HM e1 p1 p2 hl cx cx' cy (by omega) cq (by rw [if_neg (by omega)] at hm; exact hm.symm)
  · exact div_neg_neg_01 x y q r m w ht hx hx' hy hy' zn HQ HM e1 p1 p2 hl cx cx' cy cy' (by omega) cq (by rw [if_neg (by omega)] at hm; exact hm.symm)
  · exact div_neg_pos_01 x y q r m w ht hx hx' hy hy' zn HQ HM e1 p1 p2 hl cx cx' cy (by omega) cq (by rw [if_pos (by omega)] at hm; exact hm.symm)
  · exact div_nonneg_least_01 x y q r m w ht hx hx' hy hy' zn HQ HM e1 p1 p2 hl cx cy (by omega) cq (by rw [if_pos (by omega)] at hm; exact hm.symm)
  · exact div_nonneg_neg_01 x y q r m w ht hx hx' hy hy' zn HQ HM e1 p1 p2 hl cx cy cy' (by omega) cq (by rw [if_pos (by omega)] at hm; exact hm.symm)
  · exact div_nonneg_pos_01 x y q r m w ht hx hx' hy hy' zn HQ HM e1 p1 p2 hl cx cy (by omega) cq (by rw [if_neg (by omega)] at hm; exact hm.symm)
  · exact div_least_least_00 x y q r m w ht hx hx' hy hy' zn HQ HM e1 p1 p2 hl cx cy (by omega) (by omega) (by rw [if_neg (by omega)] at hm; exact hm.symm)
  · exact div_least_neg_00 x y q r m w ht hx hx' hy hy' zn HQ HM e1 p1 p2 hl cx cy cy' (by omega) (by omega) (by rw [if_neg (by omega)] at hm; exact hm.symm)
  · exact div_least_pos_00 x y q r m w ht hx hx' hy hy' zn HQ HM e1 p1 p2 hl cx cy (by omega) (by omega) (by rw [if_pos (by omega)] at hm; exact hm.symm)
  · exact div_neg_least_00 x y q r m w ht hx hx' hy hy' zn HQ HM e1 p1 p2 hl cx cx' cy (by omega) (by omega) (by rw [if_neg (by omega)] at hm; exact hm.symm)
  · exact div_neg_neg_00 x y q r m w ht hx hx' hy hy' zn HQ HM e1 p1 p2 hl cx cx' cy cy' (by omega) (by omega) (by rw [if_neg (by omega)] at hm; exact hm.symm)
  · exact div_neg_pos_00 x y q r m w ht hx hx' hy hy' zn HQ HM e1 p1 p2 hl cx cx' cy (by omega) (by omega) (by rw [if_pos (by omega)] at hm; exact hm.symm)
  · exact div_nonneg_least_00 x y q r m w ht hx hx' hy hy' zn HQ HM e1 p1 p2 hl cx cy (by omega) (by omega) (by rw [if_pos (by omega)] at hm; exact hm.symm)
  · exact div_nonneg_neg_00 x y q r m w ht hx hx' hy hy' zn HQ HM e1 p1 p2 hl cx cy cy' (by omega) (by omega) (by rw [if_pos (by omega)] at hm; exact hm.symm)
  · exact div_nonneg_pos_00 x y q r m w ht hx hx' hy hy' zn HQ HM e1 p1 p2 hl cx cy (by omega) (by omega) (by rw [if_neg (by omega)] at hm; exact hm.symm)
end Go.Proofs.YtoedgailgejafaaDoor
