/- The law NumPowers returns true for every base of 64 bits and all exponents of 8 bits, and changes nothing that was there. -/
import Derived.Test.YtoedgailgejafabDoorFrame
import Derived.Test.YtoedgailgejafabDoorPow
namespace Go.Proofs.YtoedgailgejafabDoor
open Go.RowKit
set_option linter.unusedVariables false

theorem pow_unfit_left (x : Int) (i j : Nat) (h : ¬ Fit (x ^ i)) : ¬ Fit (x ^ (i + j)) := by
  have h0 : i ≠ 0 := by rintro rfl; exact h (by rw [Int.pow_zero]; exact ⟨by decide, by decide⟩)
  have z0 : x ≠ 0 := by rintro rfl; exact h (by rw [Int.zero_pow h0]; exact ⟨by decide, by decide⟩)
  have z1 : x ≠ 1 := by rintro rfl; exact h (by rw [Int.one_pow]; exact ⟨by decide, by decide⟩)
  have zm : x ≠ -1 := by rintro rfl; exact h (by rw [pow_neg_one]; exact ⟨by omega, by omega⟩)
  exact pow_grow x i (i + j) (by omega) (by omega) h

set_option maxHeartbeats 1000000 in
theorem powers_n (x : Int) (i j : Nat) (w : World) (ht : Tab w) (hx : -9223372036854775808 ≤ x) (hx' : x ≤ 9223372036854775807) (hi : (i : Int) ≤ 255) (hj : (j : Int) ≤ 255) (h1 : ¬ Fit (x ^ i)) (h3 : ¬ Fit (x ^ (i + j))) :
    Calls Tryd.prog 3 #[.int .i64 x, .int .u8 i, .int .u8 j] w fun e w' => e = .returned (.bool true) ∧ Below w.heap.size w w' := by
  have HB := hide (begun_any w ht)
  clear ht
  have P1 := hide (fun w => pow_no x i w hx hx' (by omega) h1)
  obtain ⟨p2, q2, P2⟩ : ∃ p q : Int, Hid (∀ w, Calls Tryd.prog 5 #[.int .i64 x, .int .i64 j] w fun e w' => e = .returned (.tuple #[.int .i64 p, .int .i64 q]) ∧ w' = w) := by
    by_cases c : Fit (x ^ j)
    · exact ⟨_, _, hide (fun w => pow_yes x j w hx hx' (by omega) c)⟩
    · exact ⟨_, _, hide (fun w => pow_no x j w hx hx' (by omega) c)⟩
  have P3 := hide (fun w => pow_no x (i + j) w hx hx' (by omega) h3)
  rw [show ((i + j : Nat) : Int) = (i : Int) + (j : Int) from by omega] at P3
  clear h1 h3
  go_enter Tryd.func3, Tryd.ntmps3
  try simp only [List.append]
  go_wp2_with (go_at_call 4; refine HB.out.mono ?_; rintro e w' ⟨rfl, hw⟩)
  refine (P1.out _).mono ?_
  rintro e w1 ⟨rfl, rfl⟩
  go_wp2_with fail
  refine (P2.out _).mono ?_
  rintro e w1 ⟨rfl, rfl⟩
  go_wp2_with fail
  refine (P3.out _).mono ?_
  rintro e w1 ⟨rfl, rfl⟩
  go_wp2_with fail
  go_ret
  exact ⟨rfl, hw⟩

set_option maxHeartbeats 1000000 in
theorem powers_yn (x : Int) (i j : Nat) (w : World) (ht : Tab w) (hx : -9223372036854775808 ≤ x) (hx' : x ≤ 9223372036854775807) (hi : (i : Int) ≤ 255) (hj : (j : Int) ≤ 255) (h1 : Fit (x ^ i)) (h2 : ¬ Fit (x ^ j)) (h3 : ¬ Fit (x ^ (i + j))) :
    Calls Tryd.prog 3 #[.int .i64 x, .int .u8 i, .int .u8 j] w fun e w' => e = .returned (.bool true) ∧ Below w.heap.size w w' := by
  have HB := hide (begun_any w ht)
  clear ht
  have P1 := hide (fun w => pow_yes x i w hx hx' (by omega) h1)
  have P2 := hide (fun w => pow_no x j w hx hx' (by omega) h2)
  have P3 := hide (fun w => pow_no x (i + j) w hx hx' (by omega) h3)
  rw [show ((i + j : Nat) : Int) = (i : Int) + (j : Int) from by omega] at P3
  generalize x ^ i = p1 at *
  clear h2 h3 h1
  go_enter Tryd.func3, Tryd.ntmps3
  try simp only [List.append]
  go_wp2_with (go_at_call 4; refine HB.out.mono ?_; rintro e w' ⟨rfl, hw⟩)
  refine (P1.out _).mono ?_
  rintro e w1 ⟨rfl, rfl⟩
  go_wp2_with fail
  refine (P2.out _).mono ?_
  rintro e w1 ⟨rfl, rfl⟩
  go_wp2_with fail
  refine (P3.out _).mono ?_
  rintro e w1 ⟨rfl, rfl⟩
  go_wp2_with fail
  go_ret
  exact ⟨rfl, hw⟩

set_option maxHeartbeats 1000000 in
theorem powers_yyy (x : Int) (i j : Nat) (w : World) (ht : Tab w) (hx : -9223372036854775808 ≤ x) (hx' : x ≤ 9223372036854775807) (hi : (i : Int) ≤ 255) (hj : (j : Int) ≤ 255) (h1 : Fit (x ^ i)) (h2 : Fit (x ^ j)) (h3 : Fit (x ^ (i + j))) :
    Calls Tryd.prog 3 #[.int .i64 x, .int .u8 i, .int .u8 j] w fun e w' => e = .returned (.bool true) ∧ Below w.heap.size w w' := by
  have HB := hide (begun_any w ht)
  clear ht
  have P1 := hide (fun w => pow_yes x i w hx hx' (by omega) h1)
  have P2 := hide (fun w => pow_yes x j w hx hx' (by omega) h2)
  have P3 := hide (fun w => pow_yes x (i + j) w hx hx' (by omega) h3)
  rw [show ((i + j : Nat) : Int) = (i : Int) + (j : Int) from by omega] at P3
  have e3 := Int.pow_add x i j
  obtain ⟨a1, a2⟩ := h1
  obtain ⟨b1, b2⟩ := h2
  have PM := hide (fun w => mul64_yes (x ^ i) (x ^ j) w a1 a2 b1 b2 (by rw [← e3]; exact h3.1) (by rw [← e3]; exact h3.2))
  rw [← e3] at PM
  generalize x ^ (i + j) = p3 at *
  generalize x ^ i = p1 at *
  generalize x ^ j = p2 at *
  clear e3 h3
  go_enter Tryd.func3, Tryd.ntmps3
  try simp only [List.append]
  go_wp2_with (go_at_call 4; refine HB.out.mono ?_; rintro e w' ⟨rfl, hw⟩)
  refine (P1.out _).mono ?_
  rintro e w1 ⟨rfl, rfl⟩
  go_wp2_with fail
  refine (P2.out _).mono ?_
  rintro e w1 ⟨rfl, rfl⟩
  go_wp2_with fail
  refine (P3.out _).mono ?_
  rintro e w1 ⟨rfl, rfl⟩
  go_wp2_with (go_at_call 6; refine (PM.out _).mono ?_; rintro e w' ⟨rfl, rfl⟩)
  go_ret
  exact ⟨rfl, hw⟩

set_option maxHeartbeats 1000000 in
theorem powers_yyn (x : Int) (i j : Nat) (w : World) (ht : Tab w) (hx : -9223372036854775808 ≤ x) (hx' : x ≤ 9223372036854775807) (hi : (i : Int) ≤ 255) (hj : (j : Int) ≤ 255) (h1 : Fit (x ^ i)) (h2 : Fit (x ^ j)) (h3 : ¬ Fit (x ^ (i + j))) :
    Calls Tryd.prog 3 #[.int .i64 x, .int .u8 i, .int .u8 j] w fun e w' => e = .returned (.bool true) ∧ Below w.heap.size w w' := by
  have HB := hide (begun_any w ht)
  clear ht
  have P1 := hide (fun w => pow_yes x i w hx hx' (by omega) h1)
  have P2 := hide (fun w => pow_yes x j w hx hx' (by omega) h2)
  have P3 := hide (fun w => pow_no x (i + j) w hx hx' (by omega) h3)
  rw [show ((i + j : Nat) : Int) = (i : Int) + (j : Int) from by omega] at P3
  have e3 := Int.pow_add x i j
  obtain ⟨a1, a2⟩ := h1
  obtain ⟨b1, b2⟩ := h2
  have PM := hide (fun w => mul64_no (x ^ i) (x ^ j) w a1 a2 b1 b2 (by rw [← e3]; unfold Fit at h3; omega))
  generalize x ^ i = p1 at *
  generalize x ^ j = p2 at *
  clear e3 h3
  go_enter Tryd.func3, Tryd.ntmps3
  try simp only [List.append]
  go_wp2_with (go_at_call 4; refine HB.out.mono ?_; rintro e w' ⟨rfl, hw⟩)
  refine (P1.out _).mono ?_
  rintro e w1 ⟨rfl, rfl⟩
  go_wp2_with fail
  refine (P2.out _).mono ?_
  rintro e w1 ⟨rfl, rfl⟩
  go_wp2_with fail
  refine (P3.out _).mono ?_
  rintro e w1 ⟨rfl, rfl⟩
  go_wp2_with (go_at_call 6; refine (PM.out _).mono ?_; rintro e w' ⟨rfl, rfl⟩)
  go_ret
  exact ⟨rfl, hw⟩

theorem numPowers_walk (x a b : Int) (w : World) (hx : -9223372036854775808 ≤ x) (hx' : x ≤ 9223372036854775807) (ha : 0 ≤ a) (ha' : a ≤ 255) (hb : 0 ≤ b) (hb' : b ≤ 255) (ht : Tab w) :
    Calls Tryd.prog 3 #[.int .i64 x, .int .u8 a, .int .u8 b] w fun e w' => e = .returned (.bool true) ∧ Below w.heap.size w w' := by
  obtain ⟨i, rfl⟩ := Int.eq_ofNat_of_zero_le ha
  obtain ⟨j, rfl⟩ := Int.eq_ofNat_of_zero_le hb
  by_cases h1 : Fit (x ^ i)
  · by_cases h2 : Fit (x ^ j)
    · by_cases h3 : Fit (x ^ (i + j))
      · exact powers_yyy x i j w ht hx hx' ha' hb' h1 h2 h3
      · exact powers_yyn x i j w ht hx hx' ha' hb' h1 h2 h3
    · exact powers_yn x i j w ht hx hx' ha' hb' h1 h2 (by rw [Nat.add_comm]; exact pow_unfit_left x j i h2)
  · exact powers_n x i j w ht hx hx' ha' hb' h1 (pow_unfit_left x i j h1)
end Go.Proofs.YtoedgailgejafabDoor
