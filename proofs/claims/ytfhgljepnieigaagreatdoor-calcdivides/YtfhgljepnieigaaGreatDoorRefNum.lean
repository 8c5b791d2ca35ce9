/- The document's numbers of sign and size (the reference's of, fits, told, sum, product): what each computes, proved of the Go text. -/
import Derived.Test.YtfhgljepnieigaaGreatDoorRows
import Derived.Test.YtfhgljepnieigaaGreatDoorBaJ
import Derived.Test.YtfhgljepnieigaaGreatDoorPow
import Derived.WalkKit
import Derived.WalkSpells
import Derived.WalkLawsBesides
import Derived.Handy
import Derived.RegionTactic
import Derived.BigRegion
import Derived.ChangeAlike
namespace Go.Proofs.YtfhgljepnieigaaGreatDoor
open Go.RowKit
set_option linter.unusedVariables false

abbrev num (s o : Bool) (m : Int) : Value := .agg #[.bool s, .bool o, .int .u64 m]
abbrev box (s o : Bool) (m : Int) : Obj := .cells #[.bool s, .bool o, .int .u64 m] 118

set_option maxHeartbeats 400000 in
theorem of_as (n : Int) (s : Bool) (m : Int) (w : World) (h0 : -9223372036854775808 ≤ n) (h1 : n ≤ 9223372036854775807) (hs : decide (n < 0) = s) (hm : (n.natAbs : Int) = m) :
    Calls Tryz.prog 153 #[.int .i64 n] w fun e w' => e = .returned (num s false m) ∧ w' = w.alloc (box s false m) := by
  by_cases hn : n < 0
  · have e1 : s = true := by rw [← hs]; simpa using hn
    have e2 : m = -(n + 1) + 1 := by omega
    subst e1 e2
    clear hs hm
    go_enter Tryz.func153, Tryz.ntmps153
    go_wp2
    go_returns
    exact ⟨rfl, rfl⟩
  · have e1 : s = false := by rw [← hs]; simpa using hn
    have e2 : m = n := by omega
    subst e1 e2
    clear hs hm
    go_enter Tryz.func153, Tryz.ntmps153
    go_wp2
    go_returns
    exact ⟨rfl, rfl⟩
set_option maxHeartbeats 400000 in
theorem fits_over (s : Bool) (m : Int) (w : World) :
    Calls Tryz.prog 151 #[num s true m] w fun e w' => e = .returned (.tuple #[.int .i64 0, .bool false]) ∧ w' = w.alloc (box s true m) := by
  go_enter Tryz.func151, Tryz.ntmps151
  go_wp2
  go_ret2
  exact ⟨rfl, rfl⟩
set_option maxHeartbeats 400000 in
theorem fits_great (s : Bool) (m : Int) (h : 9223372036854775808 < m) (w : World) :
    Calls Tryz.prog 151 #[num s false m] w fun e w' => e = .returned (.tuple #[.int .i64 0, .bool false]) ∧ w' = w.alloc (box s false m) := by
  go_enter Tryz.func151, Tryz.ntmps151
  go_wp2
  go_ret2
  exact ⟨rfl, rfl⟩
set_option maxHeartbeats 400000 in
theorem fits_half  (w : World) :
    Calls Tryz.prog 151 #[num false false 9223372036854775808] w fun e w' => e = .returned (.tuple #[.int .i64 0, .bool false]) ∧ w' = w.alloc (box false false 9223372036854775808) := by
  go_enter Tryz.func151, Tryz.ntmps151
  go_wp2
  go_ret2
  exact ⟨rfl, rfl⟩
set_option maxHeartbeats 400000 in
theorem fits_least  (w : World) :
    Calls Tryz.prog 151 #[num true false 9223372036854775808] w fun e w' => e = .returned (.tuple #[.int .i64 (-9223372036854775808), .bool true]) ∧ w' = w.alloc (box true false 9223372036854775808) := by
  go_enter Tryz.func151, Tryz.ntmps151
  go_wp2
  go_ret2
  exact ⟨rfl, rfl⟩
set_option maxHeartbeats 400000 in
theorem fits_neg (m : Int) (h0 : 0 ≤ m) (h : m < 9223372036854775808) (w : World) :
    Calls Tryz.prog 151 #[num true false m] w fun e w' => e = .returned (.tuple #[.int .i64 (-m), .bool true]) ∧ w' = w.alloc (box true false m) := by
  have t1 : (m == 9223372036854775808) = false := by rw [beq_eq_false_iff_ne]; omega
  go_enter Tryz.func151, Tryz.ntmps151
  go_wp2
  go_ret2
  exact ⟨rfl, rfl⟩
set_option maxHeartbeats 400000 in
theorem fits_pos (m : Int) (h0 : 0 ≤ m) (h : m < 9223372036854775808) (w : World) :
    Calls Tryz.prog 151 #[num false false m] w fun e w' => e = .returned (.tuple #[.int .i64 m, .bool true]) ∧ w' = w.alloc (box false false m) := by
  have t1 : (m == 9223372036854775808) = false := by rw [beq_eq_false_iff_ne]; omega
  go_enter Tryz.func151, Tryz.ntmps151
  go_wp2
  go_ret2
  exact ⟨rfl, rfl⟩
set_option maxHeartbeats 400000 in
theorem sum_same (s o p : Bool) (a b : Int) (h1 : 0 ≤ a) (h1' : a < 18446744073709551616) (h2 : 0 ≤ b) (h2' : b < 18446744073709551616) (h : a + b < 18446744073709551616) (w : World) :
    Calls Tryz.prog 152 #[num s o a, num s p b] w fun e w' => e = .returned (num s false (a + b)) ∧ w' = ((w.alloc (box s o a)).alloc (box s p b)).alloc (box s false (a + b)) := by
  have t1 : decide (a + b < a) = false := by simp; omega
  go_enter Tryz.func152, Tryz.ntmps152
  go_wp2
  go_returns
  exact ⟨rfl, rfl⟩
set_option maxHeartbeats 400000 in
theorem sum_wrap (s o p : Bool) (a b : Int) (h1 : 0 ≤ a) (h1' : a < 18446744073709551616) (h2 : 0 ≤ b) (h2' : b < 18446744073709551616) (h : 18446744073709551616 ≤ a + b) (w : World) :
    Calls Tryz.prog 152 #[num s o a, num s p b] w fun e w' => e = .returned (num s true (a + b - 18446744073709551616)) ∧ w' = ((w.alloc (box s o a)).alloc (box s p b)).alloc (box s true (a + b - 18446744073709551616)) := by
  have e : IntKind.u64.wrap (a + b) = a + b - 18446744073709551616 := by rw [IntKind.wrap_u64]; omega
  have t1 : a + b - 18446744073709551616 < a := by omega
  go_enter Tryz.func152, Tryz.ntmps152
  go_wp2
  go_returns
  exact ⟨rfl, rfl⟩
set_option maxHeartbeats 400000 in
theorem sum_ge (s o p : Bool) (a b : Int) (h1 : 0 ≤ a) (h1' : a < 18446744073709551616) (h2 : 0 ≤ b) (h2' : b < 18446744073709551616) (h : b ≤ a) (w : World) :
    Calls Tryz.prog 152 #[num s o a, num (!s) p b] w fun e w' => e = .returned (num s false (a - b)) ∧ w' = ((w.alloc (box s o a)).alloc (box (!s) p b)).alloc (box s false (a - b)) := by
  have t1 : (s == !s) = false := by cases s <;> rfl
  go_enter Tryz.func152, Tryz.ntmps152
  go_wp2
  go_returns
  exact ⟨rfl, rfl⟩
set_option maxHeartbeats 400000 in
theorem sum_lt (s o p : Bool) (a b : Int) (h1 : 0 ≤ a) (h1' : a < 18446744073709551616) (h2 : 0 ≤ b) (h2' : b < 18446744073709551616) (h : a < b) (w : World) :
    Calls Tryz.prog 152 #[num s o a, num (!s) p b] w fun e w' => e = .returned (num (!s) false (b - a)) ∧ w' = ((w.alloc (box s o a)).alloc (box (!s) p b)).alloc (box (!s) false (b - a)) := by
  have t1 : (s == !s) = false := by cases s <;> rfl
  go_enter Tryz.func152, Tryz.ntmps152
  go_wp2
  go_returns
  exact ⟨rfl, rfl⟩
set_option maxHeartbeats 1000000 in
theorem product_zero (s t : Bool) (a b : Int) (h1 : a = 0) (h2 : 0 ≤ b) (h2' : b < 18446744073709551616) (w : World) :
    Calls Tryz.prog 154 #[num s false a, num t false b] w fun e w' => e = .returned (num (s != t) false 0) ∧ w' = (((w.alloc (box s false a)).alloc (box t false b)).alloc (box (s != t) false 0)).drew := by
  subst h1
  go_enter Tryz.func154, Tryz.ntmps154
  go_wp2
  go_region
  all_goals (go_wp2; go_returns; exact ⟨rfl, rfl⟩)
set_option maxHeartbeats 1000000 in
theorem product_fit (s t : Bool) (a b : Int) (h1 : 0 < a) (h1' : a < 18446744073709551616) (h2 : 0 ≤ b) (h2' : b < 18446744073709551616) (h : a * b < 18446744073709551616) (w : World) :
    Calls Tryz.prog 154 #[num s false a, num t false b] w fun e w' => e = .returned (num (s != t) false (a * b)) ∧ w' = (((w.alloc (box s false a)).alloc (box t false b)).alloc (box (s != t) false (a * b))).drew := by
  have p0 : 0 ≤ a * b := Int.mul_nonneg (by omega) h2
  have ta : (a != 0) = true := by rw [bne_iff_ne]; omega
  have tz : (a == 0) = false := by rw [beq_eq_false_iff_ne]; omega
  have e : a * b / a = b := Int.mul_ediv_cancel_left b (by omega)
  have tq : (a * b / a != b) = false := by rw [e]; simp
  clear e
  go_enter Tryz.func154, Tryz.ntmps154
  go_wp2
  go_region
  all_goals (go_wp2; go_returns; exact ⟨rfl, rfl⟩)
set_option maxHeartbeats 1000000 in
theorem product_over (s t : Bool) (a b m : Int) (h1 : 0 < a) (h1' : a < 18446744073709551616) (h2 : 0 ≤ b) (h2' : b < 18446744073709551616) (h : 18446744073709551616 ≤ a * b) (hm : IntKind.u64.wrap (a * b) = m) (w : World) :
    Calls Tryz.prog 154 #[num s false a, num t false b] w fun e w' => e = .returned (num (s != t) true m) ∧ w' = (((w.alloc (box s false a)).alloc (box t false b)).alloc (box (s != t) true m)).drew := by
  have ta : (a != 0) = true := by rw [bne_iff_ne]; omega
  have tz : (a == 0) = false := by rw [beq_eq_false_iff_ne]; omega
  have hm2 : 0 ≤ m ∧ m < 18446744073709551616 ∧ m < a * b := by rw [← hm, IntKind.wrap_u64]; omega
  obtain ⟨m1, m2, m3⟩ := hm2
  have tq : (m / a != b) = true := by
    rw [bne_iff_ne]
    intro e
    have := Int.mul_ediv_self_le (x := m) (k := a) (by omega)
    rw [e] at this; omega
  clear h m3
  go_enter Tryz.func154, Tryz.ntmps154
  go_wp2
  go_region
  all_goals (go_wp2; go_returns; exact ⟨rfl, rfl⟩)
end Go.Proofs.YtfhgljepnieigaaGreatDoor
