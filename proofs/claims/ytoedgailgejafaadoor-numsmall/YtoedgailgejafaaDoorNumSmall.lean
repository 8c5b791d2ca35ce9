/- The law NumSmall returns true for every pair of numbers of 32 bits, and changes nothing that was there. -/
import Derived.Test.YtoedgailgejafaaDoorFrame
namespace Go.Proofs.YtoedgailgejafaaDoor
open Go.RowKit
set_option linter.unusedVariables false

theorem prod32 (x y : Int) (hx : -2147483648 ≤ x) (hx' : x ≤ 2147483647) (hy : -2147483648 ≤ y) (hy' : y ≤ 2147483647) : -4611686018427387904 ≤ x * y ∧ x * y ≤ 4611686018427387904 := by
  have h : (x * y).natAbs ≤ 2147483648 * 2147483648 := by rw [Int.natAbs_mul]; exact Nat.mul_le_mul (by omega) (by omega)
  omega
set_option maxHeartbeats 400000 in
theorem fits_yes (n : Int) (w : World) (h1 : -2147483648 ≤ n) (h2 : n ≤ 2147483647) :
    Calls Tryd.prog 14 #[.int .i64 n] w fun e w' => e = .returned (.bool true) ∧ w' = w := by
  have t1 : decide (-2147483648 ≤ n) = true := by simpa using h1
  have t2 : decide (n < 2147483648) = true := by simp; omega
  go_enter Tryd.func14, Tryd.ntmps14
  go_wp2
  go_ret
  exact ⟨rfl, rfl⟩
set_option maxHeartbeats 400000 in
theorem fits_no (n : Int) (w : World) (h : n < -2147483648 ∨ 2147483647 < n) :
    Calls Tryd.prog 14 #[.int .i64 n] w fun e w' => e = .returned (.bool false) ∧ w' = w := by
  rcases h with h | h
  · have t1 : decide (-2147483648 ≤ n) = false := by simp; omega
    go_enter Tryd.func14, Tryd.ntmps14
    go_wp2
    go_ret
    exact ⟨rfl, rfl⟩
  · have t1 : decide (-2147483648 ≤ n) = true := by simp; omega
    have t2 : decide (n < 2147483648) = false := by simp; omega
    go_enter Tryd.func14, Tryd.ntmps14
    go_wp2
    go_ret
    exact ⟨rfl, rfl⟩

set_option maxHeartbeats 1000000 in
theorem small_111 (x y : Int) (w : World) (hx : -2147483648 ≤ x) (hx' : x ≤ 2147483647) (hy : -2147483648 ≤ y) (hy' : y ≤ 2147483647) (ht : Tab w) (p1 : -4611686018427387904 ≤ x * y) (p2 : x * y ≤ 4611686018427387904) (a1 : -2147483648 ≤ x + y) (a2 : x + y ≤ 2147483647) (s1 : -2147483648 ≤ x - y) (s2 : x - y ≤ 2147483647) (m1 : -2147483648 ≤ x * y) (m2 : x * y ≤ 2147483647) :
    Calls Tryd.prog 4 #[.int .i32 x, .int .i32 y] w fun e w' => e = .returned (.bool true) ∧ Below w.heap.size w w' := by
  have HB := hide (begun_any w ht)
  clear ht
  go_enter Tryd.func4, Tryd.ntmps4
  simp only [List.append]
  go_wp2_with (first
    | (go_at_call 9; refine HB.out.mono ?_; rintro e w' ⟨rfl, hb⟩)
    | (go_at_call 11; refine (add32_yes x y _ (by omega) (by omega) (by omega) (by omega) (by omega) (by omega)).mono ?_; rintro e w' ⟨rfl, rfl⟩)
    | (go_at_call 12; refine (sub32_yes x y _ (by omega) (by omega) (by omega) (by omega) (by omega) (by omega)).mono ?_; rintro e w' ⟨rfl, rfl⟩)
    | (go_at_call 13; refine (mul32_yes x y _ (by omega) (by omega) (by omega) (by omega) (by omega) (by omega)).mono ?_; rintro e w' ⟨rfl, rfl⟩))
  refine (fits_yes _ _ (by omega) (by omega)).mono ?_
  rintro e w1 ⟨rfl, rfl⟩
  go_wp2_with fail
  refine (fits_yes _ _ (by omega) (by omega)).mono ?_
  rintro e w1 ⟨rfl, rfl⟩
  go_wp2_with fail
  refine (fits_yes _ _ (by omega) (by omega)).mono ?_
  rintro e w1 ⟨rfl, rfl⟩
  go_wp2_with fail
  go_ret
  exact ⟨rfl, hb⟩

set_option maxHeartbeats 1000000 in
theorem small_110 (x y : Int) (w : World) (hx : -2147483648 ≤ x) (hx' : x ≤ 2147483647) (hy : -2147483648 ≤ y) (hy' : y ≤ 2147483647) (ht : Tab w) (p1 : -4611686018427387904 ≤ x * y) (p2 : x * y ≤ 4611686018427387904) (a1 : -2147483648 ≤ x + y) (a2 : x + y ≤ 2147483647) (s1 : -2147483648 ≤ x - y) (s2 : x - y ≤ 2147483647) (m1 : Hid (x * y < -2147483648 ∨ 2147483647 < x * y)) :
    Calls Tryd.prog 4 #[.int .i32 x, .int .i32 y] w fun e w' => e = .returned (.bool true) ∧ Below w.heap.size w w' := by
  have HB := hide (begun_any w ht)
  clear ht
  go_enter Tryd.func4, Tryd.ntmps4
  simp only [List.append]
  go_wp2_with (first
    | (go_at_call 9; refine HB.out.mono ?_; rintro e w' ⟨rfl, hb⟩)
    | (go_at_call 11; refine (add32_yes x y _ (by omega) (by omega) (by omega) (by omega) (by omega) (by omega)).mono ?_; rintro e w' ⟨rfl, rfl⟩)
    | (go_at_call 12; refine (sub32_yes x y _ (by omega) (by omega) (by omega) (by omega) (by omega) (by omega)).mono ?_; rintro e w' ⟨rfl, rfl⟩)
    | (go_at_call 13; refine (mul32_no x y _ (by omega) (by omega) (by omega) (by omega) m1.out).mono ?_; rintro e w' ⟨rfl, rfl⟩))
  refine (fits_yes _ _ (by omega) (by omega)).mono ?_
  rintro e w1 ⟨rfl, rfl⟩
  go_wp2_with fail
  refine (fits_yes _ _ (by omega) (by omega)).mono ?_
  rintro e w1 ⟨rfl, rfl⟩
  go_wp2_with fail
  refine (fits_no _ _ m1.out).mono ?_
  rintro e w1 ⟨rfl, rfl⟩
  go_wp2_with fail
  go_ret
  exact ⟨rfl, hb⟩

set_option maxHeartbeats 1000000 in
theorem small_101 (x y : Int) (w : World) (hx : -2147483648 ≤ x) (hx' : x ≤ 2147483647) (hy : -2147483648 ≤ y) (hy' : y ≤ 2147483647) (ht : Tab w) (p1 : -4611686018427387904 ≤ x * y) (p2 : x * y ≤ 4611686018427387904) (a1 : -2147483648 ≤ x + y) (a2 : x + y ≤ 2147483647) (s1 : Hid (x - y < -2147483648 ∨ 2147483647 < x - y)) (m1 : -2147483648 ≤ x * y) (m2 : x * y ≤ 2147483647) :
    Calls Tryd.prog 4 #[.int .i32 x, .int .i32 y] w fun e w' => e = .returned (.bool true) ∧ Below w.heap.size w w' := by
  have HB := hide (begun_any w ht)
  clear ht
  go_enter Tryd.func4, Tryd.ntmps4
  simp only [List.append]
  go_wp2_with (first
    | (go_at_call 9; refine HB.out.mono ?_; rintro e w' ⟨rfl, hb⟩)
    | (go_at_call 11; refine (add32_yes x y _ (by omega) (by omega) (by omega) (by omega) (by omega) (by omega)).mono ?_; rintro e w' ⟨rfl, rfl⟩)
    | (go_at_call 12; refine (sub32_no x y _ (by omega) (by omega) (by omega) (by omega) s1.out).mono ?_; rintro e w' ⟨rfl, rfl⟩)
    | (go_at_call 13; refine (mul32_yes x y _ (by omega) (by omega) (by omega) (by omega) (by omega) (by omega)).mono ?_; rintro e w' ⟨rfl, rfl⟩))
  refine (fits_yes _ _ (by omega) (by omega)).mono ?_
  rintro e w1 ⟨rfl, rfl⟩
  go_wp2_with fail
  refine (fits_no _ _ s1.out).mono ?_
  rintro e w1 ⟨rfl, rfl⟩
  go_wp2_with fail
  refine (fits_yes _ _ (by omega) (by omega)).mono ?_
  rintro e w1 ⟨rfl, rfl⟩
  go_wp2_with fail
  go_ret
  exact ⟨rfl, hb⟩

set_option maxHeartbeats 1000000 in
theorem small_100 (x y : Int) (w : World) (hx : -2147483648 ≤ x) (hx' : x ≤ 2147483647) (hy : -2147483648 ≤ y) (hy' : y ≤ 2147483647) (ht : Tab w) (p1 : -4611686018427387904 ≤ x * y) (p2 : x * y ≤ 4611686018427387904) (a1 : -2147483648 ≤ x + y) (a2 : x + y ≤ 2147483647) (s1 : Hid (x - y < -2147483648 ∨ 2147483647 < x - y)) (m1 : Hid (x * y < -2147483648 ∨ 2147483647 < x * y)) :
    Calls Tryd.prog 4 #[.int .i32 x, .int .i32 y] w fun e w' => e = .returned (.bool true) ∧ Below w.heap.size w w' := by
  have HB := hide (begun_any w ht)
  clear ht
  go_enter Tryd.func4, Tryd.ntmps4
  simp only [List.append]
  go_wp2_with (first
    | (go_at_call 9; refine HB.out.mono ?_; rintro e w' ⟨rfl, hb⟩)
    | (go_at_call 11; refine (add32_yes x y _ (by omega) (by omega) (by omega) (by omega) (by omega) (by omega)).mono ?_; rintro e w' ⟨rfl, rfl⟩)
    | (go_at_call 12; refine (sub32_no x y _ (by omega) (by omega) (by omega) (by omega) s1.out).mono ?_; rintro e w' ⟨rfl, rfl⟩)
    | (go_at_call 13; refine (mul32_no x y _ (by omega) (by omega) (by omega) (by omega) m1.out).mono ?_; rintro e w' ⟨rfl, rfl⟩))
  refine (fits_yes _ _ (by omega) (by omega)).mono ?_
  rintro e w1 ⟨rfl, rfl⟩
  go_wp2_with fail
  refine (fits_no _ _ s1.out).mono ?_
  rintro e w1 ⟨rfl, rfl⟩
  go_wp2_with fail
  refine (fits_no _ _ m1.out).mono ?_
  rintro e w1 ⟨rfl, rfl⟩
  go_wp2_with fail
  go_ret
  exact ⟨rfl, hb⟩

set_option maxHeartbeats 1000000 in
theorem small_011 (x y : Int) (w : World) (hx : -2147483648 ≤ x) (hx' : x ≤ 2147483647) (hy : -2147483648 ≤ y) (hy' : y ≤ 2147483647) (ht : Tab w) (p1 : -4611686018427387904 ≤ x * y) (p2 : x * y ≤ 4611686018427387904) (a1 : Hid (x + y < -2147483648 ∨ 2147483647 < x + y)) (s1 : -2147483648 ≤ x - y) (s2 : x - y ≤ 2147483647) (m1 : -2147483648 ≤ x * y) (m2 : x * y ≤ 2147483647) :
    Calls Tryd.prog 4 #[.int .i32 x, .int .i32 y] w fun e w' => e = .returned (.bool true) ∧ Below w.heap.size w w' := by
  have HB := hide (begun_any w ht)
  clear ht
  go_enter Tryd.func4, Tryd.ntmps4
  simp only [List.append]
  go_wp2_with (first
    | (go_at_call 9; refine HB.out.mono ?_; rintro e w' ⟨rfl, hb⟩)
    | (go_at_call 11; refine (add32_no x y _ (by omega) (by omega) (by omega) (by omega) a1.out).mono ?_; rintro e w' ⟨rfl, rfl⟩)
    | (go_at_call 12; refine (sub32_yes x y _ (by omega) (by omega) (by omega) (by omega) (by omega) (by omega)).mono ?_; rintro e w' ⟨rfl, rfl⟩)
    | (go_at_call 13; refine (mul32_yes x y _ (by omega) (by omega) (by omega) (by omega) (by omega) (by omega)).mono ?_; rintro e w' ⟨rfl, rfl⟩))
  refine (fits_no _ _ a1.out).mono ?_
  rintro e w1 ⟨rfl, rfl⟩
  go_wp2_with fail
  refine (fits_yes _ _ (by omega) (by omega)).mono ?_
  rintro e w1 ⟨rfl, rfl⟩
  go_wp2_with fail
  refine (fits_yes _ _ (by omega) (by omega)).mono ?_
  rintro e w1 ⟨rfl, rfl⟩
  go_wp2_with fail
  go_ret
  exact ⟨rfl, hb⟩

set_option maxHeartbeats 1000000 in
theorem small_010 (x y : Int) (w : World) (hx : -2147483648 ≤ x) (hx' : x ≤ 2147483647) (hy : -2147483648 ≤ y) (hy' : y ≤ 2147483647) (ht : Tab w) (p1 : -4611686018427387904 ≤ x * y) (p2 : x * y ≤ 4611686018427387904) (a1 : Hid (x + y < -2147483648 ∨ 2147483647 < x + y)) (s1 : -2147483648 ≤ x - y) (s2 : x - y ≤ 2147483647) (m1 : Hid (x * y < -2147483648 ∨ 2147483647 < x * y)) :
    Calls Tryd.prog 4 #[.int .i32 x, .int .i32 y] w fun e w' => e = .returned (.bool true) ∧ Below w.heap.size w w' := by
  have HB := hide (begun_any w ht)
  clear ht
  go_enter Tryd.func4, Tryd.ntmps4
  simp only [List.append]
  go_wp2_with (first
    | (go_at_call 9; refine HB.out.mono ?_; rintro e w' ⟨rfl, hb⟩)
    | (go_at_call 11; refine (add32_no x y _ (by omega) (by omega) (by omega) (by omega) a1.out).mono ?_; rintro e w' ⟨rfl, rfl⟩)
    | (go_at_call 12; refine (sub32_yes x y _ (by omega) (by omega) (by omega) (by omega) (by omega) (by omega)).mono ?_; rintro e w' ⟨rfl, rfl⟩)
    | (go_at_call 13; refine (mul32_no x y _ (by omega) (by omega) (by omega) (by omega) m1.out).mono ?_; rintro e w' ⟨rfl, rfl⟩))
  refine (fits_no _ _ a1.out).mono ?_
  rintro e w1 ⟨rfl, rfl⟩
  go_wp2_with fail
  refine (fits_yes _ _ (by omega) (by omega)).mono ?_
  rintro e w1 ⟨rfl, rfl⟩
  go_wp2_with fail
  refine (fits_no _ _ m1.out).mono ?_
  rintro e w1 ⟨rfl, rfl⟩
  go_wp2_with fail
  go_ret
  exact ⟨rfl, hb⟩

set_option maxHeartbeats 1000000 in
theorem small_001 (x y : Int) (w : World) (hx : -2147483648 ≤ x) (hx' : x ≤ 2147483647) (hy : -2147483648 ≤ y) (hy' : y ≤ 2147483647) (ht : Tab w) (p1 : -4611686018427387904 ≤ x * y) (p2 : x * y ≤ 4611686018427387904) (a1 : Hid (x + y < -2147483648 ∨ 2147483647 < x + y)) (s1 : Hid (x - y < -2147483648 ∨ 2147483647 < x - y)) (m1 : -2147483648 ≤ x * y) (m2 : x * y ≤ 2147483647) :
    Calls Tryd.prog 4 #[.int .i32 x, .int .i32 y] w fun e w' => e = .returned (.bool true) ∧ Below w.heap.size w w' := by
  have HB := hide (begun_any w ht)
  clear ht
  go_enter Tryd.func4, Tryd.ntmps4
  simp only [List.append]
  go_wp2_with (first
    | (go_at_call 9; refine HB.out.mono ?_; rintro e w' ⟨rfl, hb⟩)
    | (go_at_call 11; refine (add32_no x y _ (by omega) (by omega) (by omega) (by omega) a1.out).mono ?_; rintro e w' ⟨rfl, rfl⟩)
    | (go_at_call 12; refine (sub32_no x y _ (by omega) (by omega) (by omega) (by omega) s1.out).mono ?_; rintro e w' ⟨rfl, rfl⟩)
    | (go_at_call 13; refine (mul32_yes x y _ (by omega) (by omega) (by omega) (by omega) (by omega) (by omega)).mono ?_; rintro e w' ⟨rfl, rfl⟩))
  refine (fits_no _ _ a1.out).mono ?_
  rintro e w1 ⟨rfl, rfl⟩
  go_wp2_with fail
  refine (fits_no _ _ s1.out).mono ?_
  rintro e w1 ⟨rfl, rfl⟩
  go_wp2_with fail
  refine (fits_yes _ _ (by omega) (by omega)).mono ?_
  rintro e w1 ⟨rfl, rfl⟩
  go_wp2_with fail
  go_ret
  exact ⟨rfl, hb⟩

set_option maxHeartbeats 1000000 in
theorem small_000 (x y : Int) (w : World) (hx : -2147483648 ≤ x) (hx' : x ≤ 2147483647) (hy : -2147483648 ≤ y) (hy' : y ≤ 2147483647) (ht : Tab w) (p1 : -4611686018427387904 ≤ x * y) (p2 : x * y ≤ 4611686018427387904) (a1 : Hid (x + y < -2147483648 ∨ 2147483647 < x + y)) (s1 : Hid (x - y < -2147483648 ∨ 2147483647 < x - y)) (m1 : Hid (x * y < -2147483648 ∨ 2147483647 < x * y)) :
    Calls Tryd.prog 4 #[.int .i32 x, .int .i32 y] w fun e w' => e = .returned (.bool true) ∧ Below w.heap.size w w' := by
  have HB := hide (begun_any w ht)
  clear ht
  go_enter Tryd.func4, Tryd.ntmps4
  simp only [List.append]
  go_wp2_with (first
    | (go_at_call 9; refine HB.out.mono ?_; rintro e w' ⟨rfl, hb⟩)
    | (go_at_call 11; refine (add32_no x y _ (by omega) (by omega) (by omega) (by omega) a1.out).mono ?_; rintro e w' ⟨rfl, rfl⟩)
    | (go_at_call 12; refine (sub32_no x y _ (by omega) (by omega) (by omega) (by omega) s1.out).mono ?_; rintro e w' ⟨rfl, rfl⟩)
    | (go_at_call 13; refine (mul32_no x y _ (by omega) (by omega) (by omega) (by omega) m1.out).mono ?_; rintro e w' ⟨rfl, rfl⟩))
  refine (fits_no _ _ a1.out).mono ?_
  rintro e w1 ⟨rfl, rfl⟩
  go_wp2_with fail
  refine (fits_no _ _ s1.out).mono ?_
  rintro e w1 ⟨rfl, rfl⟩
  go_wp2_with fail
  refine (fits_no _ _ m1.out).mono ?_
  rintro e w1 ⟨rfl, rfl⟩
  go_wp2_with fail
  go_ret
  exact ⟨rfl, hb⟩

theorem numSmall_walk (x y : Int) (w : World) (hx : -2147483648 ≤ x) (hx' : x ≤ 2147483647) (hy : -2147483648 ≤ y) (hy' : y ≤ 2147483647) (ht : Tab w) :
    Calls Tryd.prog 4 #[.int .i32 x, .int .i32 y] w fun e w' => e = .returned (.bool true) ∧ Below w.heap.size w w' := by
  obtain ⟨p1, p2⟩ := prod32 x y hx hx' hy hy'
  by_cases ca : -2147483648 ≤ x + y ∧ x + y ≤ 2147483647 <;> by_cases cs : -2147483648 ≤ x - y ∧ x - y ≤ 2147483647 <;> by_cases cm : -2147483648 ≤ x * y ∧ x * y ≤ 2147483647
  · exact small_111 x y w hx hx' hy hy' ht p1 p2 ca.1 ca.2 cs.1 cs.2 cm.1 cm.2
  · exact small_110 x y w hx hx' hy hy' ht p1 p2 ca.1 ca.2 cs.1 cs.2 (hide (by omega))
  · exact small_101 x y w hx hx' hy hy' ht p1 p2 ca.1 ca.2 (hide (by omega)) cm.1 cm.2
  · exact small_100 x y w hx hx' hy hy' ht p1 p2 ca.1 ca.2 (hide (by omega)) (hide (by omega))
  · exact small_011 x y w hx hx' hy hy' ht p1 p2 (hide (by omega)) cs.1 cs.2 cm.1 cm.2
  · exact small_010 x y w hx hx' hy hy' ht p1 p2 (hide (by omega)) cs.1 cs.2 (hide (by omega))
  · exact small_001 x y w hx hx' hy hy' ht p1 p2 (hide (by omega)) (hide (by omega)) cm.1 cm.2
  · exact small_000 x y w hx hx' hy hy' ht p1 p2 (hide (by omega)) (hide (by omega)) (hide (by omega))
end Go.Proofs.YtoedgailgejafaaDoor
