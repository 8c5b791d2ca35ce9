/- The law NumCommon returns true for all numbers of 64 bits, and changes nothing that was there. -/
import Derived.Test.YtoedgailgejafaaDoorFrame
import Derived.Test.YtoedgailgejafaaDoorGcd
namespace Go.Proofs.YtoedgailgejafaaDoor
open Go.RowKit
set_option linter.unusedVariables false

def Draws (f : FuncId) (args : Array Value) (v : Value) : Prop := ∀ w, Calls Tryd.prog f args w fun e w' => e = .returned v ∧ ∃ n, w' = w.drewN n
theorem draws_of {f : FuncId} {args : Array Value} {v : Value} (h : ∀ w, Calls Tryd.prog f args w fun e w' => e = .returned v ∧ w' = w) : Draws f args v := fun w => (h w).mono fun _ _ ⟨a, b⟩ => ⟨a, 0, b⟩

set_option maxRecDepth 100000 in
set_option maxHeartbeats 1000000 in
theorem common_ll  (w : World) (ht : Tab w) (HG1 : Hid (Draws 28 #[.int .i64 (-9223372036854775808), .int .i64 (-9223372036854775808)] (Value.tuple #[.int .i64 0, .int .i64 13]))) (HL : Hid (Draws 29 #[.int .i64 (-9223372036854775808), .int .i64 (-9223372036854775808)] (Value.tuple #[.int .i64 0, .int .i64 13]))) (HG2 : Hid (Draws 28 #[.int .i64 (-9223372036854775808), .int .i64 (-9223372036854775808)] (Value.tuple #[.int .i64 0, .int .i64 13]))) :
    Calls Tryd.prog 8 #[.int .i64 (-9223372036854775808), .int .i64 (-9223372036854775808)] w fun e w' => e = .returned (.bool true) ∧ Below w.heap.size w w' := by
  have HB := hide (begun_any w ht)
  clear ht
  go_enter Tryd.func8, Tryd.ntmps8
  try simp only [List.append]
  go_wp2_with (go_at_call 9; refine HB.out.mono ?_; rintro e wb ⟨rfl, hb⟩)
  refine (HG1.out _).mono ?_
  rintro e w1 ⟨rfl, n1, rfl⟩
  go_wp2_with fail
  refine (HL.out _).mono ?_
  rintro e w2 ⟨rfl, n2, rfl⟩
  go_wp2_with fail
  refine (HG2.out _).mono ?_
  rintro e w3 ⟨rfl, n3, rfl⟩
  go_wp2_with fail
  go_ret
  exact ⟨rfl, by repeat (first | exact hb | refine below_drewN ?_ _)⟩

set_option maxRecDepth 100000 in
set_option maxHeartbeats 1000000 in
theorem common_lz  (w : World) (ht : Tab w) (HG1 : Hid (Draws 28 #[.int .i64 (-9223372036854775808), .int .i64 0] (Value.tuple #[.int .i64 0, .int .i64 13]))) (HL : Hid (Draws 29 #[.int .i64 (-9223372036854775808), .int .i64 0] (Value.tuple #[.int .i64 0, .int .i64 0]))) (HG2 : Hid (Draws 28 #[.int .i64 0, .int .i64 (-9223372036854775808)] (Value.tuple #[.int .i64 0, .int .i64 13]))) :
    Calls Tryd.prog 8 #[.int .i64 (-9223372036854775808), .int .i64 0] w fun e w' => e = .returned (.bool true) ∧ Below w.heap.size w w' := by
  have HB := hide (begun_any w ht)
  clear ht
  go_enter Tryd.func8, Tryd.ntmps8
  try simp only [List.append]
  go_wp2_with (go_at_call 9; refine HB.out.mono ?_; rintro e wb ⟨rfl, hb⟩)
  refine (HG1.out _).mono ?_
  rintro e w1 ⟨rfl, n1, rfl⟩
  go_wp2_with fail
  refine (HL.out _).mono ?_
  rintro e w2 ⟨rfl, n2, rfl⟩
  go_wp2_with fail
  refine (HG2.out _).mono ?_
  rintro e w3 ⟨rfl, n3, rfl⟩
  go_wp2_with fail
  go_ret
  exact ⟨rfl, by repeat (first | exact hb | refine below_drewN ?_ _)⟩

set_option maxRecDepth 100000 in
set_option maxHeartbeats 1000000 in
theorem common_zl  (w : World) (ht : Tab w) (HG1 : Hid (Draws 28 #[.int .i64 0, .int .i64 (-9223372036854775808)] (Value.tuple #[.int .i64 0, .int .i64 13]))) (HL : Hid (Draws 29 #[.int .i64 0, .int .i64 (-9223372036854775808)] (Value.tuple #[.int .i64 0, .int .i64 0]))) (HG2 : Hid (Draws 28 #[.int .i64 (-9223372036854775808), .int .i64 0] (Value.tuple #[.int .i64 0, .int .i64 13]))) :
    Calls Tryd.prog 8 #[.int .i64 0, .int .i64 (-9223372036854775808)] w fun e w' => e = .returned (.bool true) ∧ Below w.heap.size w w' := by
  have HB := hide (begun_any w ht)
  clear ht
  go_enter Tryd.func8, Tryd.ntmps8
  try simp only [List.append]
  go_wp2_with (go_at_call 9; refine HB.out.mono ?_; rintro e wb ⟨rfl, hb⟩)
  refine (HG1.out _).mono ?_
  rintro e w1 ⟨rfl, n1, rfl⟩
  go_wp2_with fail
  refine (HL.out _).mono ?_
  rintro e w2 ⟨rfl, n2, rfl⟩
  go_wp2_with fail
  refine (HG2.out _).mono ?_
  rintro e w3 ⟨rfl, n3, rfl⟩
  go_wp2_with fail
  go_ret
  exact ⟨rfl, by repeat (first | exact hb | refine below_drewN ?_ _)⟩

set_option maxRecDepth 100000 in
set_option maxHeartbeats 1000000 in
theorem common_zz  (w : World) (ht : Tab w) (HG1 : Hid (Draws 28 #[.int .i64 0, .int .i64 0] (Value.tuple #[.int .i64 0, .int .i64 0]))) (HL : Hid (Draws 29 #[.int .i64 0, .int .i64 0] (Value.tuple #[.int .i64 0, .int .i64 0]))) (HG2 : Hid (Draws 28 #[.int .i64 0, .int .i64 0] (Value.tuple #[.int .i64 0, .int .i64 0]))) :
    Calls Tryd.prog 8 #[.int .i64 0, .int .i64 0] w fun e w' => e = .returned (.bool true) ∧ Below w.heap.size w w' := by
  have HB := hide (begun_any w ht)
  clear ht
  go_enter Tryd.func8, Tryd.ntmps8
  try simp only [List.append]
  go_wp2_with (go_at_call 9; refine HB.out.mono ?_; rintro e wb ⟨rfl, hb⟩)
  refine (HG1.out _).mono ?_
  rintro e w1 ⟨rfl, n1, rfl⟩
  go_wp2_with fail
  refine (HL.out _).mono ?_
  rintro e w2 ⟨rfl, n2, rfl⟩
  go_wp2_with fail
  refine (HG2.out _).mono ?_
  rintro e w3 ⟨rfl, n3, rfl⟩
  go_wp2_with fail
  go_ret
  exact ⟨rfl, by repeat (first | exact hb | refine below_drewN ?_ _)⟩

set_option maxRecDepth 100000 in
set_option maxHeartbeats 1000000 in
theorem common_zy (y : Int) (g : Nat) (w : World) (ht : Tab w) (hy : -9223372036854775808 ≤ y) (hy' : y ≤ 9223372036854775807) (zy : y ≠ 0) (g1 : 1 ≤ g) (g2 : (g : Int) ≤ 9223372036854775807) (my : y.tmod g = 0) (HG1 : Hid (Draws 28 #[.int .i64 0, .int .i64 y] (Value.tuple #[.int .i64 g, .int .i64 0]))) (HL : Hid (Draws 29 #[.int .i64 0, .int .i64 y] (Value.tuple #[.int .i64 0, .int .i64 0]))) (HG2 : Hid (Draws 28 #[.int .i64 y, .int .i64 0] (Value.tuple #[.int .i64 g, .int .i64 0]))) :
    Calls Tryd.prog 8 #[.int .i64 0, .int .i64 y] w fun e w' => e = .returned (.bool true) ∧ Below w.heap.size w w' := by
  have tg : ((g : Int) == 0) = false := by rw [beq_eq_false_iff_ne]; omega
  have tn : ¬ (g : Int) < 0 := by omega
  have ty : (y == 0) = false := by rw [beq_eq_false_iff_ne]; exact zy
  have mx : (0 : Int).tmod g = 0 := Int.zero_tmod _
  clear zy
  have HB := hide (begun_any w ht)
  clear ht
  go_enter Tryd.func8, Tryd.ntmps8
  try simp only [List.append]
  go_wp2_with (go_at_call 9; refine HB.out.mono ?_; rintro e wb ⟨rfl, hb⟩)
  refine (HG1.out _).mono ?_
  rintro e w1 ⟨rfl, n1, rfl⟩
  go_wp2_with fail
  refine (HL.out _).mono ?_
  rintro e w2 ⟨rfl, n2, rfl⟩
  go_wp2_with fail
  refine (HG2.out _).mono ?_
  rintro e w3 ⟨rfl, n3, rfl⟩
  go_wp2_with fail
  go_ret
  exact ⟨rfl, by repeat (first | exact hb | refine below_drewN ?_ _)⟩

set_option maxRecDepth 100000 in
set_option maxHeartbeats 1000000 in
theorem common_xz (x : Int) (g : Nat) (w : World) (ht : Tab w) (hx : -9223372036854775808 ≤ x) (hx' : x ≤ 9223372036854775807) (zx : x ≠ 0) (g1 : 1 ≤ g) (g2 : (g : Int) ≤ 9223372036854775807) (mx : x.tmod g = 0) (HG1 : Hid (Draws 28 #[.int .i64 x, .int .i64 0] (Value.tuple #[.int .i64 g, .int .i64 0]))) (HL : Hid (Draws 29 #[.int .i64 x, .int .i64 0] (Value.tuple #[.int .i64 0, .int .i64 0]))) (HG2 : Hid (Draws 28 #[.int .i64 0, .int .i64 x] (Value.tuple #[.int .i64 g, .int .i64 0]))) :
    Calls Tryd.prog 8 #[.int .i64 x, .int .i64 0] w fun e w' => e = .returned (.bool true) ∧ Below w.heap.size w w' := by
  have tg : ((g : Int) == 0) = false := by rw [beq_eq_false_iff_ne]; omega
  have tn : ¬ (g : Int) < 0 := by omega
  have tx : (x == 0) = false := by rw [beq_eq_false_iff_ne]; exact zx
  have my : (0 : Int).tmod g = 0 := Int.zero_tmod _
  clear zx
  have HB := hide (begun_any w ht)
  clear ht
  go_enter Tryd.func8, Tryd.ntmps8
  try simp only [List.append]
  go_wp2_with (go_at_call 9; refine HB.out.mono ?_; rintro e wb ⟨rfl, hb⟩)
  refine (HG1.out _).mono ?_
  rintro e w1 ⟨rfl, n1, rfl⟩
  go_wp2_with fail
  refine (HL.out _).mono ?_
  rintro e w2 ⟨rfl, n2, rfl⟩
  go_wp2_with fail
  refine (HG2.out _).mono ?_
  rintro e w3 ⟨rfl, n3, rfl⟩
  go_wp2_with fail
  go_ret
  exact ⟨rfl, by repeat (first | exact hb | refine below_drewN ?_ _)⟩

set_option maxRecDepth 100000 in
set_option maxHeartbeats 1000000 in
theorem common_a1 (x y q r : Int) (g l : Nat) (w : World) (ht : Tab w) (hx : -9223372036854775808 ≤ x) (hx' : x ≤ 9223372036854775807) (hy : -9223372036854775808 ≤ y) (hy' : y ≤ 9223372036854775807) (zx : x ≠ 0) (zy : y ≠ 0) (g1 : 1 ≤ g) (g2 : (g : Int) ≤ 9223372036854775807) (mx : x.tmod g = 0) (my : y.tmod g = 0) (dx : x.tdiv g = q) (dy : y.tdiv g = r) (q1 : -9223372036854775808 ≤ q) (q2 : q ≤ 9223372036854775807) (r1 : -9223372036854775808 ≤ r) (r2 : r ≤ 9223372036854775807)
    (HG3 : Hid (Draws 28 #[.int .i64 q, .int .i64 r] (Value.tuple #[.int .i64 1, .int .i64 0]))) (HM : Hid (∀ w, Calls Tryd.prog 23 #[.int .i64 q, .int .i64 y] w fun e w' => e = .returned (.tuple #[.int .i64 (l : Int), .bool true]) ∧ w' = w)) (l1 : 1 ≤ l) (l2 : (l : Int) ≤ 9223372036854775807) (HG1 : Hid (Draws 28 #[.int .i64 x, .int .i64 y] (Value.tuple #[.int .i64 g, .int .i64 0]))) (HL : Hid (Draws 29 #[.int .i64 x, .int .i64 y] (Value.tuple #[.int .i64 l, .int .i64 0]))) (HG2 : Hid (Draws 28 #[.int .i64 y, .int .i64 x] (Value.tuple #[.int .i64 g, .int .i64 0]))) :
    Calls Tryd.prog 8 #[.int .i64 x, .int .i64 y] w fun e w' => e = .returned (.bool true) ∧ Below w.heap.size w w' := by
  have tg : ((g : Int) == 0) = false := by rw [beq_eq_false_iff_ne]; omega
  have tn : ¬ (g : Int) < 0 := by omega
  have tx : (x == 0) = false := by rw [beq_eq_false_iff_ne]; exact zx
  have ty : (y == 0) = false := by rw [beq_eq_false_iff_ne]; exact zy
  clear zx zy
  have t1 : ((l : Int) == -9223372036854775808) = false := by rw [beq_eq_false_iff_ne]; omega
  have t2 : 0 < l := by omega
  have HB := hide (begun_any w ht)
  clear ht
  go_enter Tryd.func8, Tryd.ntmps8
  try simp only [List.append]
  go_wp2_with (go_at_call 9; refine HB.out.mono ?_; rintro e wb ⟨rfl, hb⟩)
  refine (HG1.out _).mono ?_
  rintro e w1 ⟨rfl, n1, rfl⟩
  go_wp2_with fail
  refine (HL.out _).mono ?_
  rintro e w2 ⟨rfl, n2, rfl⟩
  go_wp2_with fail
  refine (HG2.out _).mono ?_
  rintro e w3 ⟨rfl, n3, rfl⟩
  go_wp2_with fail
  go_quiet ((go_at_call 28; refine (HG3.out _).mono ?_; rintro e w' ⟨rfl, m, rfl⟩; exact ⟨rfl, _, by rw [World.drewN_drewN, Nat.add_assoc]⟩))
  go_wp2_with (go_at_call 23; refine (HM.out _).mono ?_; rintro e w' ⟨rfl, rfl⟩)
  go_ret
  exact ⟨rfl, by repeat (first | exact hb | refine below_drewN ?_ _)⟩

set_option maxRecDepth 100000 in
set_option maxHeartbeats 1000000 in
theorem common_a2 (x y q r : Int) (g l : Nat) (w : World) (ht : Tab w) (hx : -9223372036854775808 ≤ x) (hx' : x ≤ 9223372036854775807) (hy : -9223372036854775808 ≤ y) (hy' : y ≤ 9223372036854775807) (zx : x ≠ 0) (zy : y ≠ 0) (g1 : 1 ≤ g) (g2 : (g : Int) ≤ 9223372036854775807) (mx : x.tmod g = 0) (my : y.tmod g = 0) (dx : x.tdiv g = q) (dy : y.tdiv g = r) (q1 : -9223372036854775808 ≤ q) (q2 : q ≤ 9223372036854775807) (r1 : -9223372036854775808 ≤ r) (r2 : r ≤ 9223372036854775807)
    (HG3 : Hid (Draws 28 #[.int .i64 q, .int .i64 r] (Value.tuple #[.int .i64 1, .int .i64 0]))) (HM : Hid (∀ w, Calls Tryd.prog 23 #[.int .i64 q, .int .i64 y] w fun e w' => e = .returned (.tuple #[.int .i64 (-(l : Int)), .bool true]) ∧ w' = w)) (l1 : 1 ≤ l) (l2 : (l : Int) ≤ 9223372036854775807) (HG1 : Hid (Draws 28 #[.int .i64 x, .int .i64 y] (Value.tuple #[.int .i64 g, .int .i64 0]))) (HL : Hid (Draws 29 #[.int .i64 x, .int .i64 y] (Value.tuple #[.int .i64 l, .int .i64 0]))) (HG2 : Hid (Draws 28 #[.int .i64 y, .int .i64 x] (Value.tuple #[.int .i64 g, .int .i64 0]))) :
    Calls Tryd.prog 8 #[.int .i64 x, .int .i64 y] w fun e w' => e = .returned (.bool true) ∧ Below w.heap.size w w' := by
  have tg : ((g : Int) == 0) = false := by rw [beq_eq_false_iff_ne]; omega
  have tn : ¬ (g : Int) < 0 := by omega
  have tx : (x == 0) = false := by rw [beq_eq_false_iff_ne]; exact zx
  have ty : (y == 0) = false := by rw [beq_eq_false_iff_ne]; exact zy
  clear zx zy
  have t1 : (-(l : Int) == -9223372036854775808) = false := by rw [beq_eq_false_iff_ne]; omega
  have t2 : 0 < l := by omega
  have t3 : (-(l : Int) == (l : Int)) = false := by rw [beq_eq_false_iff_ne]; omega
  have HB := hide (begun_any w ht)
  clear ht
  go_enter Tryd.func8, Tryd.ntmps8
  try simp only [List.append]
  go_wp2_with (go_at_call 9; refine HB.out.mono ?_; rintro e wb ⟨rfl, hb⟩)
  refine (HG1.out _).mono ?_
  rintro e w1 ⟨rfl, n1, rfl⟩
  go_wp2_with fail
  refine (HL.out _).mono ?_
  rintro e w2 ⟨rfl, n2, rfl⟩
  go_wp2_with fail
  refine (HG2.out _).mono ?_
  rintro e w3 ⟨rfl, n3, rfl⟩
  go_wp2_with fail
  go_quiet ((go_at_call 28; refine (HG3.out _).mono ?_; rintro e w' ⟨rfl, m, rfl⟩; exact ⟨rfl, _, by rw [World.drewN_drewN, Nat.add_assoc]⟩))
  go_wp2_with (go_at_call 23; refine (HM.out _).mono ?_; rintro e w' ⟨rfl, rfl⟩)
  go_ret
  exact ⟨rfl, by repeat (first | exact hb | refine below_drewN ?_ _)⟩

set_option maxRecDepth 100000 in
set_option maxHeartbeats 1000000 in
theorem common_b1 (x y q r : Int) (g : Nat) (w : World) (ht : Tab w) (hx : -9223372036854775808 ≤ x) (hx' : x ≤ 9223372036854775807) (hy : -9223372036854775808 ≤ y) (hy' : y ≤ 9223372036854775807) (zx : x ≠ 0) (zy : y ≠ 0) (g1 : 1 ≤ g) (g2 : (g : Int) ≤ 9223372036854775807) (mx : x.tmod g = 0) (my : y.tmod g = 0) (dx : x.tdiv g = q) (dy : y.tdiv g = r) (q1 : -9223372036854775808 ≤ q) (q2 : q ≤ 9223372036854775807) (r1 : -9223372036854775808 ≤ r) (r2 : r ≤ 9223372036854775807)
    (HG3 : Hid (Draws 28 #[.int .i64 q, .int .i64 r] (Value.tuple #[.int .i64 1, .int .i64 0]))) (HM : Hid (∀ w, Calls Tryd.prog 23 #[.int .i64 q, .int .i64 y] w fun e w' => e = .returned (.tuple #[.int .i64 (-9223372036854775808), .bool true]) ∧ w' = w)) (HG1 : Hid (Draws 28 #[.int .i64 x, .int .i64 y] (Value.tuple #[.int .i64 g, .int .i64 0]))) (HL : Hid (Draws 29 #[.int .i64 x, .int .i64 y] (Value.tuple #[.int .i64 0, .int .i64 13]))) (HG2 : Hid (Draws 28 #[.int .i64 y, .int .i64 x] (Value.tuple #[.int .i64 g, .int .i64 0]))) :
    Calls Tryd.prog 8 #[.int .i64 x, .int .i64 y] w fun e w' => e = .returned (.bool true) ∧ Below w.heap.size w w' := by
  have tg : ((g : Int) == 0) = false := by rw [beq_eq_false_iff_ne]; omega
  have tn : ¬ (g : Int) < 0 := by omega
  have tx : (x == 0) = false := by rw [beq_eq_false_iff_ne]; exact zx
  have ty : (y == 0) = false := by rw [beq_eq_false_iff_ne]; exact zy
  clear zx zy
  have HB := hide (begun_any w ht)
  clear ht
  go_enter Tryd.func8, Tryd.ntmps8
  try simp only [List.append]
  go_wp2_with (go_at_call 9; refine HB.out.mono ?_; rintro e wb ⟨rfl, hb⟩)
  refine (HG1.out _).mono ?_
  rintro e w1 ⟨rfl, n1, rfl⟩
  go_wp2_with fail
  refine (HL.out _).mono ?_
  rintro e w2 ⟨rfl, n2, rfl⟩
  go_wp2_with fail
  refine (HG2.out _).mono ?_
  rintro e w3 ⟨rfl, n3, rfl⟩
  go_wp2_with fail
  go_quiet ((go_at_call 28; refine (HG3.out _).mono ?_; rintro e w' ⟨rfl, m, rfl⟩; exact ⟨rfl, _, by rw [World.drewN_drewN, Nat.add_assoc]⟩))
  go_wp2_with (go_at_call 23; refine (HM.out _).mono ?_; rintro e w' ⟨rfl, rfl⟩)
  go_ret
  exact ⟨rfl, by repeat (first | exact hb | refine below_drewN ?_ _)⟩

set_option maxRecDepth 100000 in
set_option maxHeartbeats 1000000 in
theorem common_b2 (x y q r : Int) (g : Nat) (w : World) (ht : Tab w) (hx : -9223372036854775808 ≤ x) (hx' : x ≤ 9223372036854775807) (hy : -9223372036854775808 ≤ y) (hy' : y ≤ 9223372036854775807) (zx : x ≠ 0) (zy : y ≠ 0) (g1 : 1 ≤ g) (g2 : (g : Int) ≤ 9223372036854775807) (mx : x.tmod g = 0) (my : y.tmod g = 0) (dx : x.tdiv g = q) (dy : y.tdiv g = r) (q1 : -9223372036854775808 ≤ q) (q2 : q ≤ 9223372036854775807) (r1 : -9223372036854775808 ≤ r) (r2 : r ≤ 9223372036854775807)
    (HG3 : Hid (Draws 28 #[.int .i64 q, .int .i64 r] (Value.tuple #[.int .i64 1, .int .i64 0]))) (HM : Hid (∀ w, Calls Tryd.prog 23 #[.int .i64 q, .int .i64 y] w fun e w' => e = .returned (.tuple #[.int .i64 0, .bool false]) ∧ w' = w)) (HG1 : Hid (Draws 28 #[.int .i64 x, .int .i64 y] (Value.tuple #[.int .i64 g, .int .i64 0]))) (HL : Hid (Draws 29 #[.int .i64 x, .int .i64 y] (Value.tuple #[.int .i64 0, .int .i64 13]))) (HG2 : Hid (Draws 28 #[.int .i64 y, .int .i64 x] (Value.tuple #[.int .i64 g, .int .i64 0]))) :
    Calls Tryd.prog 8 #[.int .i64 x, .int .i64 y] w fun e w' => e = .returned (.bool true) ∧ Below w.heap.size w w' := by
  have tg : ((g : Int) == 0) = false := by rw [beq_eq_false_iff_ne]; omega
  have tn : ¬ (g : Int) < 0 := by omega
  have tx : (x == 0) = false := by rw [beq_eq_false_iff_ne]; exact zx
  have ty : (y == 0) = false := by rw [beq_eq_false_iff_ne]; exact zy
  clear zx zy
  have HB := hide (begun_any w ht)
  clear ht
  go_enter Tryd.func8, Tryd.ntmps8
  try simp only [List.append]
  go_wp2_with (go_at_call 9; refine HB.out.mono ?_; rintro e wb ⟨rfl, hb⟩)
  refine (HG1.out _).mono ?_
  rintro e w1 ⟨rfl, n1, rfl⟩
  go_wp2_with fail
  refine (HL.out _).mono ?_
  rintro e w2 ⟨rfl, n2, rfl⟩
  go_wp2_with fail
  refine (HG2.out _).mono ?_
  rintro e w3 ⟨rfl, n3, rfl⟩
  go_wp2_with fail
  go_quiet ((go_at_call 28; refine (HG3.out _).mono ?_; rintro e w' ⟨rfl, m, rfl⟩; exact ⟨rfl, _, by rw [World.drewN_drewN, Nat.add_assoc]⟩))
  go_wp2_with (go_at_call 23; refine (HM.out _).mono ?_; rintro e w' ⟨rfl, rfl⟩)
  go_ret
  exact ⟨rfl, by repeat (first | exact hb | refine below_drewN ?_ _)⟩

theorem div_fits (x : Int) (g : Nat) (q : Int) (g1 : 1 ≤ g) (hx : -9223372036854775808 ≤ x) (hx' : x ≤ 9223372036854775807) (dq : x.tdiv g = q) (nx : q.natAbs = x.natAbs / g) : -9223372036854775808 ≤ q ∧ q ≤ 9223372036854775807 := by
  have hle : x.natAbs / g ≤ x.natAbs := Nat.div_le_self _ _
  by_cases h : 0 ≤ x
  · omega
  · have : q ≤ 0 := by
      rw [← dq, ← Int.neg_neg x, Int.neg_tdiv]
      have : 0 ≤ (-x).tdiv (g : Int) := Int.tdiv_nonneg (by omega) (by omega)
      omega
    omega
theorem nat_div (x : Int) (g : Nat) (h : g ∣ x.natAbs) : x.tmod g = 0 ∧ (x.tdiv g).natAbs = x.natAbs / g := by
  refine ⟨Int.natAbs_eq_zero.1 ?_, ?_⟩
  · rw [Int.natAbs_tmod, Int.natAbs_natCast]; exact Nat.mod_eq_zero_of_dvd h
  · have : (x.tdiv g).natAbs = x.natAbs / (g : Int).natAbs := Int.natAbs_tdiv x g
    rwa [Int.natAbs_natCast] at this
theorem gcd_both (x y : Int) (g : Nat) (hx : -9223372036854775808 ≤ x) (hx' : x ≤ 9223372036854775807) (hy : -9223372036854775808 ≤ y) (hy' : y ≤ 9223372036854775807) (h : Nat.gcd x.natAbs y.natAbs = g) (h2 : g ≤ 9223372036854775807) : Draws 28 #[.int .i64 x, .int .i64 y] (Value.tuple #[.int .i64 g, .int .i64 0]) ∧ Draws 28 #[.int .i64 y, .int .i64 x] (Value.tuple #[.int .i64 g, .int .i64 0]) :=
  ⟨fun w => gcd_yes x y g w hx hx' hy hy' h h2, fun w => gcd_yes y x g w hy hy' hx hx' (by rw [Nat.gcd_comm]; exact h) h2⟩
theorem gcd_over (x y : Int) (g : Nat) (hx : -9223372036854775808 ≤ x) (hx' : x ≤ 9223372036854775807) (hy : -9223372036854775808 ≤ y) (hy' : y ≤ 9223372036854775807) (h : Nat.gcd x.natAbs y.natAbs = g) (h2 : 9223372036854775807 < g) : Draws 28 #[.int .i64 x, .int .i64 y] (Value.tuple #[.int .i64 0, .int .i64 13]) ∧ Draws 28 #[.int .i64 y, .int .i64 x] (Value.tuple #[.int .i64 0, .int .i64 13]) :=
  ⟨fun w => gcd_no x y g w hx hx' hy hy' h h2, fun w => gcd_no y x g w hy hy' hx hx' (by rw [Nat.gcd_comm]; exact h) h2⟩

theorem numCommon_walk (x y : Int) (w : World) (hx : -9223372036854775808 ≤ x) (hx' : x ≤ 9223372036854775807) (hy : -9223372036854775808 ≤ y) (hy' : y ≤ 9223372036854775807) (ht : Tab w) :
    Calls Tryd.prog 8 #[.int .i64 x, .int .i64 y] w fun e w' => e = .returned (.bool true) ∧ Below w.heap.size w w' := by
  obtain ⟨g, hg⟩ : ∃ g, Nat.gcd x.natAbs y.natAbs = g := ⟨_, rfl⟩
  have gx : g ∣ x.natAbs := by rw [← hg]; exact Nat.gcd_dvd_left _ _
  have gy : g ∣ y.natAbs := by rw [← hg]; exact Nat.gcd_dvd_right _ _
  have lx : x ≠ 0 → g ≤ x.natAbs := fun h => Nat.le_of_dvd (by omega) gx
  have ly : y ≠ 0 → g ≤ y.natAbs := fun h => Nat.le_of_dvd (by omega) gy
  by_cases go : 9223372036854775807 < g
  · obtain ⟨G1, G2⟩ := gcd_over x y g hx hx' hy hy' hg go
    have cx : x = 0 ∨ x = -9223372036854775808 := by
      by_cases h : x = 0
      · exact .inl h
      · have := lx h; omega
    have cy : y = 0 ∨ y = -9223372036854775808 := by
      by_cases h : y = 0
      · exact .inl h
      · have := ly h; omega
    rcases cx with rfl | rfl <;> rcases cy with rfl | rfl
    · rw [← hg] at go; exact absurd go (by decide)
    · exact common_zl w ht (hide G1) (hide (draws_of (fun w => lcm_left _ w))) (hide G2)
    · exact common_lz w ht (hide G1) (hide (draws_of (fun w => lcm_right _ w (by decide)))) (hide G2)
    · obtain ⟨z, hz⟩ : ∃ z, (-9223372036854775808 : Int).natAbs / g * (-9223372036854775808 : Int).natAbs = z := ⟨_, rfl⟩
      have hg' : g = 9223372036854775808 := by rw [← hg]; decide +kernel
      have hz' : z = 9223372036854775808 := by rw [← hz, hg']; decide +kernel
      exact common_ll w ht (hide G1) (hide (fun w => lcm_mid _ _ g z w hx hx' hy hy' (by decide) (by decide) hg hz (by omega) (by omega))) (hide G2)
  · have g2 : g ≤ 9223372036854775807 := by omega
    obtain ⟨G1, G2⟩ := gcd_both x y g hx hx' hy hy' hg g2
    by_cases zx : x = 0
    · subst zx
      by_cases zy : y = 0
      · subst zy
        have e : g = 0 := by rw [← hg]; rfl
        subst e
        exact common_zz w ht (hide G1) (hide (draws_of (fun w => lcm_left _ w))) (hide G2)
      · have g1 : 1 ≤ g := by
          have := Nat.gcd_pos_of_pos_right (0 : Int).natAbs (show 0 < y.natAbs by omega)
          omega
        exact common_zy y g w ht hy hy' zy g1 (by omega) (nat_div y g gy).1 (hide G1) (hide (draws_of (fun w => lcm_left _ w))) (hide G2)
    have g1 : 1 ≤ g := by
      have := Nat.gcd_pos_of_pos_left y.natAbs (show 0 < x.natAbs by omega)
      omega
    by_cases zy : y = 0
    · subst zy
      exact common_xz x g w ht hx hx' zx g1 (by omega) (nat_div x g gx).1 (hide G1) (hide (draws_of (fun w => lcm_right _ w zx))) (hide G2)
    obtain ⟨q, dq⟩ : ∃ q, x.tdiv g = q := ⟨_, rfl⟩
    obtain ⟨r, dr⟩ : ∃ r, y.tdiv g = r := ⟨_, rfl⟩
    obtain ⟨mx, nx⟩ := nat_div x g gx
    obtain ⟨my, ny⟩ := nat_div y g gy
    rw [dq] at nx
    rw [dr] at ny
    have hle : x.natAbs / g ≤ x.natAbs := Nat.div_le_self _ _
    have hle2 : y.natAbs / g ≤ y.natAbs := Nat.div_le_self _ _
    have q12 : -9223372036854775808 ≤ q ∧ q ≤ 9223372036854775807 := div_fits x g q g1 hx hx' dq nx
    have r12 : -9223372036854775808 ≤ r ∧ r ≤ 9223372036854775807 := div_fits y g r g1 hy hy' dr ny
    have hone : Nat.gcd q.natAbs r.natAbs = 1 := by
      rw [nx, ny, Nat.gcd_div gx gy, hg]
      exact Nat.div_self (by omega)
    have G3 : Draws 28 #[.int .i64 q, .int .i64 r] (Value.tuple #[.int .i64 1, .int .i64 0]) := fun w => gcd_yes q r 1 w q12.1 q12.2 r12.1 r12.2 hone (by decide)
    obtain ⟨l, hl⟩ : ∃ l, x.natAbs / g * y.natAbs = l := ⟨_, rfl⟩
    have hp : (q * y).natAbs = l := by rw [Int.natAbs_mul, nx, hl]
    have l1 : 1 ≤ l := by
      have : 1 ≤ x.natAbs / g := (Nat.le_div_iff_mul_le g1).2 (by have := lx zx; omega)
      have := Nat.mul_le_mul this (show 1 ≤ y.natAbs by omega)
      omega
    by_cases lu : l ≤ 9223372036854775807
    · have LY : Draws 29 #[.int .i64 x, .int .i64 y] (Value.tuple #[.int .i64 l, .int .i64 0]) := fun w => lcm_yes x y g l w hx hx' hy hy' zx zy hg hl lu
      have HM := fun w => mul64_yes q y w q12.1 q12.2 hy hy' (by omega) (by omega)
      by_cases hs : 0 ≤ q * y
      · have e : q * y = (l : Int) := by omega
        rw [e] at HM
        exact common_a1 x y q r g l w ht hx hx' hy hy' zx zy g1 (by omega) mx my dq dr q12.1 q12.2 r12.1 r12.2 (hide G3) (hide HM) l1 (by omega) (hide G1) (hide LY) (hide G2)
      · have e : q * y = -(l : Int) := by omega
        rw [e] at HM
        exact common_a2 x y q r g l w ht hx hx' hy hy' zx zy g1 (by omega) mx my dq dr q12.1 q12.2 r12.1 r12.2 (hide G3) (hide HM) l1 (by omega) (hide G1) (hide LY) (hide G2)
    · have LN : Draws 29 #[.int .i64 x, .int .i64 y] (Value.tuple #[.int .i64 0, .int .i64 13]) := fun w => by
        by_cases lm : l < 18446744073709551616
        · exact lcm_mid x y g l w hx hx' hy hy' zx zy hg hl (by omega) lm
        · exact lcm_high x y g l w hx hx' hy hy' zx zy hg hl (by omega)
      by_cases hs : q * y = -9223372036854775808
      · have HM := fun w => mul64_yes q y w q12.1 q12.2 hy hy' (by omega) (by omega)
        rw [hs] at HM
        exact common_b1 x y q r g w ht hx hx' hy hy' zx zy g1 (by omega) mx my dq dr q12.1 q12.2 r12.1 r12.2 (hide G3) (hide HM) (hide G1) (hide LN) (hide G2)
      · have HM := fun w => mul64_no q y w q12.1 q12.2 hy hy' (by omega)
        exact common_b2 x y q r g w ht hx hx' hy hy' zx zy g1 (by omega) mx my dq dr q12.1 q12.2 r12.1 r12.2 (hide G3) (hide HM) (hide G1) (hide LN) (hide G2)
end Go.Proofs.YtoedgailgejafaaDoor
