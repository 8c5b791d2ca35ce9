/- One call of the script is as the document says: the law's plays returns true for every operation, and changes nothing that was there. -/
import Derived.Test.YtoedgailgejafaaDoorRefD
import Derived.Test.YtoedgailgejafaaDoorRefE
import Derived.Test.YtoedgailgejafaaDoorRefH
namespace Go.Proofs.YtoedgailgejafaaDoor
open Go.RowKit Go.Sort
set_option linter.unusedVariables false

set_option maxHeartbeats 1000000 in
theorem sums_add (x y : Int) (s : ByteArray) (w : World) (hx : -9223372036854775808 ≤ x) (hx' : x ≤ 9223372036854775807) (hy : -9223372036854775808 ≤ y) (hy' : y ≤ 9223372036854775807) :
    Calls Tryd.prog 30 #[(.agg #[.int .i64 1, .int .i64 x, .int .i64 y, .string s])] w fun e w' => e = .returned (.bool true) ∧ Below w.heap.size w w' := by
  have HW := hide (fun w => add64_any x y w hx hx' hy hy')
  have HR := hide (fun w => refAdd x y w hx hx' hy hy')
  generalize sumV64 (x + y) = v at *
  generalize sumB64 (x + y) = b at *
  go_enter Tryd.func30, Tryd.ntmps30
  try simp only [List.append]
  go_wp2_with (first
    | (go_at_call 19; refine (HW.out _).mono ?_; rintro e w' ⟨rfl, rfl⟩)
    | (go_at_call 46; refine (HR.out _).mono ?_; rintro e w1 ⟨rfl, hb1⟩))
  go_ret
  exact ⟨rfl, ((Below.refl _ _).alloc (Nat.le_refl _) _).trans (hb1.mono (by simp))⟩
set_option maxHeartbeats 1000000 in
theorem plays_add (x y : Int) (s : ByteArray) (w : World) (hx : -9223372036854775808 ≤ x) (hx' : x ≤ 9223372036854775807) (hy : -9223372036854775808 ≤ y) (hy' : y ≤ 9223372036854775807) :
    Calls Tryd.prog 10 #[(.agg #[.int .i64 1, .int .i64 x, .int .i64 y, .string s])] w fun e w' => e = .returned (.bool true) ∧ Below w.heap.size w w' := by
  have HS := hide (fun w => sums_add x y s w hx hx' hy hy')
  go_enter Tryd.func10, Tryd.ntmps10
  try simp only [List.append]
  go_wp2_with (go_at_call 30; refine (HS.out _).mono ?_; rintro e w1 ⟨rfl, hb1⟩)
  go_ret
  exact ⟨rfl, ((Below.refl _ _).alloc (Nat.le_refl _) _).trans (hb1.mono (by simp))⟩

set_option maxHeartbeats 1000000 in
theorem sums_sub (x y : Int) (s : ByteArray) (w : World) (hx : -9223372036854775808 ≤ x) (hx' : x ≤ 9223372036854775807) (hy : -9223372036854775808 ≤ y) (hy' : y ≤ 9223372036854775807) :
    Calls Tryd.prog 30 #[(.agg #[.int .i64 2, .int .i64 x, .int .i64 y, .string s])] w fun e w' => e = .returned (.bool true) ∧ Below w.heap.size w w' := by
  have HW := hide (fun w => sub64_any x y w hx hx' hy hy')
  have HR := hide (fun w => refSub x y w hx hx' hy hy')
  generalize sumV64 (x - y) = v at *
  generalize sumB64 (x - y) = b at *
  go_enter Tryd.func30, Tryd.ntmps30
  try simp only [List.append]
  go_wp2_with (first
    | (go_at_call 21; refine (HW.out _).mono ?_; rintro e w' ⟨rfl, rfl⟩)
    | (go_at_call 47; refine (HR.out _).mono ?_; rintro e w1 ⟨rfl, hb1⟩))
  go_ret
  exact ⟨rfl, ((Below.refl _ _).alloc (Nat.le_refl _) _).trans (hb1.mono (by simp))⟩
set_option maxHeartbeats 1000000 in
theorem plays_sub (x y : Int) (s : ByteArray) (w : World) (hx : -9223372036854775808 ≤ x) (hx' : x ≤ 9223372036854775807) (hy : -9223372036854775808 ≤ y) (hy' : y ≤ 9223372036854775807) :
    Calls Tryd.prog 10 #[(.agg #[.int .i64 2, .int .i64 x, .int .i64 y, .string s])] w fun e w' => e = .returned (.bool true) ∧ Below w.heap.size w w' := by
  have HS := hide (fun w => sums_sub x y s w hx hx' hy hy')
  go_enter Tryd.func10, Tryd.ntmps10
  try simp only [List.append]
  go_wp2_with (go_at_call 30; refine (HS.out _).mono ?_; rintro e w1 ⟨rfl, hb1⟩)
  go_ret
  exact ⟨rfl, ((Below.refl _ _).alloc (Nat.le_refl _) _).trans (hb1.mono (by simp))⟩

set_option maxHeartbeats 1000000 in
theorem sums_mul (x y : Int) (s : ByteArray) (w : World) (hx : -9223372036854775808 ≤ x) (hx' : x ≤ 9223372036854775807) (hy : -9223372036854775808 ≤ y) (hy' : y ≤ 9223372036854775807) :
    Calls Tryd.prog 30 #[(.agg #[.int .i64 3, .int .i64 x, .int .i64 y, .string s])] w fun e w' => e = .returned (.bool true) ∧ Below w.heap.size w w' := by
  have HW := hide (fun w => mul64_any x y w hx hx' hy hy')
  have HR := hide (fun w => refMul x y w hx hx' hy hy')
  generalize sumV64 (x * y) = v at *
  generalize sumB64 (x * y) = b at *
  go_enter Tryd.func30, Tryd.ntmps30
  try simp only [List.append]
  go_wp2_with (first
    | (go_at_call 23; refine (HW.out _).mono ?_; rintro e w' ⟨rfl, rfl⟩)
    | (go_at_call 48; refine (HR.out _).mono ?_; rintro e w1 ⟨rfl, hb1⟩))
  go_ret
  exact ⟨rfl, ((Below.refl _ _).alloc (Nat.le_refl _) _).trans (hb1.mono (by simp))⟩
set_option maxHeartbeats 1000000 in
theorem plays_mul (x y : Int) (s : ByteArray) (w : World) (hx : -9223372036854775808 ≤ x) (hx' : x ≤ 9223372036854775807) (hy : -9223372036854775808 ≤ y) (hy' : y ≤ 9223372036854775807) :
    Calls Tryd.prog 10 #[(.agg #[.int .i64 3, .int .i64 x, .int .i64 y, .string s])] w fun e w' => e = .returned (.bool true) ∧ Below w.heap.size w w' := by
  have HS := hide (fun w => sums_mul x y s w hx hx' hy hy')
  go_enter Tryd.func10, Tryd.ntmps10
  try simp only [List.append]
  go_wp2_with (go_at_call 30; refine (HS.out _).mono ?_; rintro e w1 ⟨rfl, hb1⟩)
  go_ret
  exact ⟨rfl, ((Below.refl _ _).alloc (Nat.le_refl _) _).trans (hb1.mono (by simp))⟩

set_option maxHeartbeats 1000000 in
theorem plays_quo (x y : Int) (s : ByteArray) (w : World) (hx : -9223372036854775808 ≤ x) (hx' : x ≤ 9223372036854775807) (hy : -9223372036854775808 ≤ y) (hy' : y ≤ 9223372036854775807) (hs : s.size ≤ maxLen) :
    Calls Tryd.prog 10 #[(.agg #[.int .i64 4, .int .i64 x, .int .i64 y, .string s])] w fun e w' => e = .returned (.bool true) ∧ Below w.heap.size w w' := by
  obtain ⟨v, e0, hW, hR⟩ := quo_agree x y hx hx' hy hy'
  have HW := hide hW
  have HR := hide hR
  clear hW hR
  go_enter Tryd.func10, Tryd.ntmps10
  try simp only [List.append]
  go_wp2_with fail
  refine (HW.out _).mono ?_
  rintro e w1 ⟨rfl, hb1⟩
  obtain ⟨hc, hf⟩ := bcell hb1
  have z1 := hb1.size
  simp at z1
  go_wp2_with (go_at_call 31; refine (HR.out _).mono ?_; rintro e w2 ⟨rfl, hb2⟩)
  go_ret
  refine ⟨rfl, Below.trans (Below.trans ((Below.refl _ _).alloc (Nat.le_refl _) _) (hb1.mono ?_)) (hb2.mono ?_)⟩
  · simp
  · omega

set_option maxHeartbeats 1000000 in
theorem plays_mod (x y : Int) (s : ByteArray) (w : World) (hx : -9223372036854775808 ≤ x) (hx' : x ≤ 9223372036854775807) (hy : -9223372036854775808 ≤ y) (hy' : y ≤ 9223372036854775807) (hs : s.size ≤ maxLen) :
    Calls Tryd.prog 10 #[(.agg #[.int .i64 5, .int .i64 x, .int .i64 y, .string s])] w fun e w' => e = .returned (.bool true) ∧ Below w.heap.size w w' := by
  obtain ⟨v, e0, hW, hR⟩ := mod_agree x y hx hx' hy hy'
  have HW := hide hW
  have HR := hide hR
  clear hW hR
  go_enter Tryd.func10, Tryd.ntmps10
  try simp only [List.append]
  go_wp2_with fail
  refine (HW.out _).mono ?_
  rintro e w1 ⟨rfl, hb1⟩
  obtain ⟨hc, hf⟩ := bcell hb1
  have z1 := hb1.size
  simp at z1
  go_wp2_with (go_at_call 32; refine (HR.out _).mono ?_; rintro e w2 ⟨rfl, hb2⟩)
  go_ret
  refine ⟨rfl, Below.trans (Below.trans ((Below.refl _ _).alloc (Nat.le_refl _) _) (hb1.mono ?_)) (hb2.mono ?_)⟩
  · simp
  · omega

set_option maxHeartbeats 1000000 in
theorem plays_pow (x y : Int) (s : ByteArray) (w : World) (hx : -9223372036854775808 ≤ x) (hx' : x ≤ 9223372036854775807) (hy : -9223372036854775808 ≤ y) (hy' : y ≤ 9223372036854775807) (hs : s.size ≤ maxLen) :
    Calls Tryd.prog 10 #[(.agg #[.int .i64 6, .int .i64 x, .int .i64 y, .string s])] w fun e w' => e = .returned (.bool true) ∧ Below w.heap.size w w' := by
  obtain ⟨v, e0, hW, hR⟩ := pow_agree x y hx hx' hy hy'
  have HW := hide hW
  have HR := hide hR
  clear hW hR
  go_enter Tryd.func10, Tryd.ntmps10
  try simp only [List.append]
  go_wp2_with fail
  refine (HW.out _).mono ?_
  rintro e w1 ⟨rfl, hb1⟩
  obtain ⟨hc, hf⟩ := bcell hb1
  have z1 := hb1.size
  simp at z1
  go_wp2_with (go_at_call 34; refine (HR.out _).mono ?_; rintro e w2 ⟨rfl, hb2⟩)
  go_ret
  refine ⟨rfl, Below.trans (Below.trans ((Below.refl _ _).alloc (Nat.le_refl _) _) (hb1.mono ?_)) (hb2.mono ?_)⟩
  · simp
  · omega

set_option maxHeartbeats 1000000 in
theorem plays_gcd (x y : Int) (s : ByteArray) (w : World) (hx : -9223372036854775808 ≤ x) (hx' : x ≤ 9223372036854775807) (hy : -9223372036854775808 ≤ y) (hy' : y ≤ 9223372036854775807) (hs : s.size ≤ maxLen) :
    Calls Tryd.prog 10 #[(.agg #[.int .i64 7, .int .i64 x, .int .i64 y, .string s])] w fun e w' => e = .returned (.bool true) ∧ Below w.heap.size w w' := by
  obtain ⟨v, e0, hW, hR⟩ := gcd_agree x y hx hx' hy hy'
  have HW := hide hW
  have HR := hide hR
  clear hW hR
  go_enter Tryd.func10, Tryd.ntmps10
  try simp only [List.append]
  go_wp2_with fail
  refine (HW.out _).mono ?_
  rintro e w1 ⟨rfl, hb1⟩
  obtain ⟨hc, hf⟩ := bcell hb1
  have z1 := hb1.size
  simp at z1
  go_wp2_with (go_at_call 35; refine (HR.out _).mono ?_; rintro e w2 ⟨rfl, hb2⟩)
  go_ret
  refine ⟨rfl, Below.trans (Below.trans ((Below.refl _ _).alloc (Nat.le_refl _) _) (hb1.mono ?_)) (hb2.mono ?_)⟩
  · simp
  · omega

set_option maxHeartbeats 1000000 in
theorem plays_lcm (x y : Int) (s : ByteArray) (w : World) (hx : -9223372036854775808 ≤ x) (hx' : x ≤ 9223372036854775807) (hy : -9223372036854775808 ≤ y) (hy' : y ≤ 9223372036854775807) (hs : s.size ≤ maxLen) :
    Calls Tryd.prog 10 #[(.agg #[.int .i64 8, .int .i64 x, .int .i64 y, .string s])] w fun e w' => e = .returned (.bool true) ∧ Below w.heap.size w w' := by
  obtain ⟨v, e0, hW, hR⟩ := lcm_agree x y hx hx' hy hy'
  have HW := hide hW
  have HR := hide hR
  clear hW hR
  go_enter Tryd.func10, Tryd.ntmps10
  try simp only [List.append]
  go_wp2_with fail
  refine (HW.out _).mono ?_
  rintro e w1 ⟨rfl, hb1⟩
  obtain ⟨hc, hf⟩ := bcell hb1
  have z1 := hb1.size
  simp at z1
  go_wp2_with (go_at_call 36; refine (HR.out _).mono ?_; rintro e w2 ⟨rfl, hb2⟩)
  go_ret
  refine ⟨rfl, Below.trans (Below.trans ((Below.refl _ _).alloc (Nat.le_refl _) _) (hb1.mono ?_)) (hb2.mono ?_)⟩
  · simp
  · omega

set_option maxHeartbeats 1000000 in
theorem plays_read (x y : Int) (s : ByteArray) (w : World) (hx : -9223372036854775808 ≤ x) (hx' : x ≤ 9223372036854775807) (hy : -9223372036854775808 ≤ y) (hy' : y ≤ 9223372036854775807) (hs : s.size ≤ maxLen) :
    Calls Tryd.prog 10 #[(.agg #[.int .i64 10, .int .i64 x, .int .i64 y, .string s])] w fun e w' => e = .returned (.bool true) ∧ Below w.heap.size w w' := by
  obtain ⟨v, e0, hW, hR⟩ := read_agree s hs
  have HW := hide hW
  have HR := hide hR
  clear hW hR
  go_enter Tryd.func10, Tryd.ntmps10
  try simp only [List.append]
  go_wp2_with fail
  refine (HW.out _).mono ?_
  rintro e w1 ⟨rfl, hb1⟩
  obtain ⟨hc, hf⟩ := bcell hb1
  have z1 := hb1.size
  simp at z1
  go_wp2_with (go_at_call 38; refine (HR.out _).mono ?_; rintro e w2 ⟨rfl, hb2⟩)
  go_ret
  refine ⟨rfl, Below.trans (Below.trans ((Below.refl _ _).alloc (Nat.le_refl _) _) (hb1.mono ?_)) (hb2.mono ?_)⟩
  · simp
  · omega

set_option maxHeartbeats 1000000 in
theorem plays_text (x y : Int) (s : ByteArray) (w : World) (hx : -9223372036854775808 ≤ x) (hx' : x ≤ 9223372036854775807) (hy : -9223372036854775808 ≤ y) (hy' : y ≤ 9223372036854775807) (ht : Tab w) :
    Calls Tryd.prog 10 #[(.agg #[.int .i64 9, .int .i64 x, .int .i64 y, .string s])] w fun e w' => e = .returned (.bool true) ∧ Below w.heap.size w w' := by
  have HW := hide (fun (w1 : World) (hb : Below w.heap.size w w1) => text_any x w1 hx hx' (tab_below ht hb))
  rw [show (⟨(Lib.itoa x).toArray⟩ : ByteArray) = numeral x from rfl] at HW
  have HR := hide (fun w => text_agree x hx hx' w)
  clear ht
  generalize numeral x = t at *
  go_enter Tryd.func10, Tryd.ntmps10
  try simp only [List.append]
  go_wp2_with fail
  refine (HW.out _ ((Below.refl _ _).alloc (Nat.le_refl _) _)).mono ?_
  rintro e w1 ⟨rfl, hb1⟩
  obtain ⟨hc, hf⟩ := bcell hb1
  have z1 := hb1.size
  simp at z1
  go_wp2_with (go_at_call 37; refine (HR.out _).mono ?_; rintro e w2 ⟨rfl, hb2⟩)
  go_ret
  refine ⟨rfl, Below.trans (Below.trans ((Below.refl _ _).alloc (Nat.le_refl _) _) (hb1.mono ?_)) (hb2.mono ?_)⟩
  · simp
  · omega
set_option maxHeartbeats 1000000 in
theorem plays_other (k x y : Int) (s : ByteArray) (w : World) (hk : k < 1 ∨ 10 < k) :
    Calls Tryd.prog 10 #[(.agg #[.int .i64 k, .int .i64 x, .int .i64 y, .string s])] w fun e w' => e = .returned (.bool true) ∧ Below w.heap.size w w' := by
  have t1 : (k == 1) = false := by rw [beq_eq_false_iff_ne]; omega
  have t2 : (k == 2) = false := by rw [beq_eq_false_iff_ne]; omega
  have t3 : (k == 3) = false := by rw [beq_eq_false_iff_ne]; omega
  have t4 : (k == 4) = false := by rw [beq_eq_false_iff_ne]; omega
  have t5 : (k == 5) = false := by rw [beq_eq_false_iff_ne]; omega
  have t6 : (k == 6) = false := by rw [beq_eq_false_iff_ne]; omega
  have t7 : (k == 7) = false := by rw [beq_eq_false_iff_ne]; omega
  have t8 : (k == 8) = false := by rw [beq_eq_false_iff_ne]; omega
  have t9 : (k == 9) = false := by rw [beq_eq_false_iff_ne]; omega
  have t10 : (k == 10) = false := by rw [beq_eq_false_iff_ne]; omega
  clear hk
  go_enter Tryd.func10, Tryd.ntmps10
  try simp only [List.append]
  go_wp2
  go_ret
  exact ⟨rfl, (Below.refl _ _).alloc (Nat.le_refl _) _⟩
theorem plays_any (k x y : Int) (s : ByteArray) (w : World) (hx : -9223372036854775808 ≤ x) (hx' : x ≤ 9223372036854775807) (hy : -9223372036854775808 ≤ y) (hy' : y ≤ 9223372036854775807) (hs : s.size ≤ maxLen) (ht : Tab w) :
    Calls Tryd.prog 10 #[(.agg #[.int .i64 k, .int .i64 x, .int .i64 y, .string s])] w fun e w' => e = .returned (.bool true) ∧ Below w.heap.size w w' := by
  by_cases h : k < 1 ∨ 10 < k
  · exact plays_other k x y s w h
  · have hk : k = 1 ∨ k = 2 ∨ k = 3 ∨ k = 4 ∨ k = 5 ∨ k = 6 ∨ k = 7 ∨ k = 8 ∨ k = 9 ∨ k = 10 := by omega
    rcases hk with rfl | rfl | rfl | rfl | rfl | rfl | rfl | rfl | rfl | rfl
    · exact plays_add x y s w hx hx' hy hy'
    · exact plays_sub x y s w hx hx' hy hy'
    · exact plays_mul x y s w hx hx' hy hy'
    · exact plays_quo x y s w hx hx' hy hy' hs
    · exact plays_mod x y s w hx hx' hy hy' hs
    · exact plays_pow x y s w hx hx' hy hy' hs
    · exact plays_gcd x y s w hx hx' hy hy' hs
    · exact plays_lcm x y s w hx hx' hy hy' hs
    · exact plays_text x y s w hx hx' hy hy' ht
    · exact plays_read x y s w hx hx' hy hy' hs
end Go.Proofs.YtoedgailgejafaaDoor
