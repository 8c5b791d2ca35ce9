/- whole.Gcd and whole.Lcm answer the greatest common divisor and the least common multiple of the numbers' sizes where these fit 64 bits, else ErrOver: proved of the Go text for all numbers of 64 bits. -/
import Derived.Test.YtgnmkhjilecdhaaGreatDoorRows
import Derived.Test.YtgnmkhjilecdhaaGreatDoorBaJ
import Derived.Test.YtgnmkhjilecdhaaGreatDoorShelf
import Derived.WalkKit
import Derived.WalkSpells
import Derived.WalkLawsBesides
import Derived.Deep.QuietTactic
import Derived.BigQuiet
namespace Go.Proofs.YtgnmkhjilecdhaaGreatDoor
open Go.RowKit
set_option linter.unusedVariables false

theorem ret_int {k : IntKind} {a b : Int} (h : a = b) : Ending.returned (.int k a) = .returned (.int k b) := by rw [h]
set_option maxHeartbeats 400000 in
theorem size_any (n : Int) (w : World) (h0 : -9223372036854775808 ≤ n) (h1 : n ≤ 9223372036854775807) :
    Calls Tryz.prog 109 #[.int .i64 n] w fun e w' => e = .returned (.int .u64 (n.natAbs : Int)) ∧ w' = w := by
  by_cases hn : n < 0
  · go_enter Tryz.func109, Tryz.ntmps109
    go_wp2
    go_ret
    exact ⟨ret_int (by simp only [IntKind.wrap_u64]; omega), rfl⟩
  · go_enter Tryz.func109, Tryz.ntmps109
    go_wp2
    go_ret
    exact ⟨ret_int (by try simp only [IntKind.wrap_u64]
                       omega), rfl⟩
set_option maxHeartbeats 400000 in
theorem signed_yes (n : Nat) (w : World) (h : n ≤ 9223372036854775807) :
    Calls Tryz.prog 107 #[.int .u64 n] w fun e w' => e = .returned (.tuple #[.int .i64 n, .int .i64 0]) ∧ w' = w := by
  have t : ¬ (9223372036854775807 : Int) < n := by omega
  go_enter Tryz.func107, Tryz.ntmps107
  go_wp2
  go_ret2
  exact ⟨rfl, rfl⟩
set_option maxHeartbeats 400000 in
theorem signed_no (n : Nat) (w : World) (h : 9223372036854775807 < n) :
    Calls Tryz.prog 107 #[.int .u64 n] w fun e w' => e = .returned (.tuple #[.int .i64 0, .int .i64 13]) ∧ w' = w := by
  have t : (9223372036854775807 : Int) < n := by omega
  go_enter Tryz.func107, Tryz.ntmps107
  go_wp2
  go_ret2
  exact ⟨rfl, rfl⟩

set_option maxHeartbeats 1000000 in
theorem divisor_any (x y : Nat) (w : World) (hx : x < 18446744073709551616) (hy : y < 18446744073709551616) :
    Calls Tryz.prog 108 #[.int .u64 x, .int .u64 y] w fun e w' => e = .returned (.int .u64 (Nat.gcd x y : Nat)) ∧ ∃ n, w' = w.drewN n := by
  obtain ⟨g, hg⟩ : ∃ g, Nat.gcd x y = g := ⟨_, rfl⟩
  rw [hg]
  have HG := hide hg
  clear hg
  go_enter Tryz.func108, Tryz.ntmps108
  go_wp2
  go_loopw [0, 1] (fun p q wr => ∃ a b n : Nat, p = .int .u64 a ∧ q = .int .u64 b ∧ Hid (Nat.gcd a b = g) ∧ a < 18446744073709551616 ∧ b < 18446744073709551616 ∧ wr = w.drewN n) (fun _ q _ => (intOf q).toNat)
  case atStart => exact ⟨x, y, 0, rfl, rfl, HG, hx, hy, rfl⟩
  case round =>
    obtain ⟨a, b, n, rfl, rfl, Hg, ha, hb, rfl⟩ := hrel
    by_cases hz : b = 0
    · subst hz
      have He := hide (show a = g by have := Hg.out; rwa [Nat.gcd_zero_right] at this)
      go_wp2
      go_ret
      exact ⟨ret_int (by rw [He.out]), n, rfl⟩
    · have t : ((b : Int) != 0) = true := by rw [bne_iff_ne]; omega
      have t2 : ((b : Int) == 0) = false := by rw [beq_eq_false_iff_ne]; omega
      have Hn := hide (show Nat.gcd b (a % b) = g by rw [← Hg.out, Nat.gcd_comm a b, Nat.gcd_comm b (a % b)]; exact (Nat.gcd_rec b a).symm)
      have hlt : a % b < b := Nat.mod_lt _ (by omega)
      go_wp2
      go_quiet (fail)
      go_wp2
      go_roundw
      case rel => exact ⟨b, a % b, n + nq, rfl, by simp, Hn, hb, by omega, by rw [World.drewN_drewN]⟩
      case measure => simp [intOf]; omega

set_option maxHeartbeats 1000000 in
theorem gcd_yes (a b : Int) (g : Nat) (w : World) (ha : -9223372036854775808 ≤ a) (ha' : a ≤ 9223372036854775807) (hb : -9223372036854775808 ≤ b) (hb' : b ≤ 9223372036854775807) (hg : Nat.gcd a.natAbs b.natAbs = g) (h : g ≤ 9223372036854775807) :
    Calls Tryz.prog 41 #[.int .i64 a, .int .i64 b] w fun e w' => e = .returned (.tuple #[.int .i64 g, .int .i64 0]) ∧ ∃ n, w' = w.drewN n := by
  have HD := hide (fun w => divisor_any a.natAbs b.natAbs w (by omega) (by omega))
  rw [hg] at HD
  clear hg
  go_enter Tryz.func41, Tryz.ntmps41
  go_wp2_with (first
    | (go_at_call 109; refine (size_any _ _ (by omega) (by omega)).mono ?_; rintro e w' ⟨rfl, rfl⟩)
    | (go_at_call 108; refine (HD.out _).mono ?_; rintro e w' ⟨rfl, n, rfl⟩)
    | (go_at_call 107; refine (signed_yes _ _ h).mono ?_; rintro e w' ⟨rfl, rfl⟩))
  go_ret2
  exact ⟨rfl, n, rfl⟩
set_option maxHeartbeats 1000000 in
theorem gcd_no (a b : Int) (g : Nat) (w : World) (ha : -9223372036854775808 ≤ a) (ha' : a ≤ 9223372036854775807) (hb : -9223372036854775808 ≤ b) (hb' : b ≤ 9223372036854775807) (hg : Nat.gcd a.natAbs b.natAbs = g) (h : 9223372036854775807 < g) :
    Calls Tryz.prog 41 #[.int .i64 a, .int .i64 b] w fun e w' => e = .returned (.tuple #[.int .i64 0, .int .i64 13]) ∧ ∃ n, w' = w.drewN n := by
  have HD := hide (fun w => divisor_any a.natAbs b.natAbs w (by omega) (by omega))
  rw [hg] at HD
  clear hg
  go_enter Tryz.func41, Tryz.ntmps41
  go_wp2_with (first
    | (go_at_call 109; refine (size_any _ _ (by omega) (by omega)).mono ?_; rintro e w' ⟨rfl, rfl⟩)
    | (go_at_call 108; refine (HD.out _).mono ?_; rintro e w' ⟨rfl, n, rfl⟩)
    | (go_at_call 107; refine (signed_no _ _ h).mono ?_; rintro e w' ⟨rfl, rfl⟩))
  go_ret2
  exact ⟨rfl, n, rfl⟩

theorem ret_two_u (a b : Nat) (c d : Int) (h : (a : Int) = c) (h' : (b : Int) = d) : Ending.returned (.tuple #[.int .u64 (a : Int), .int .u64 (b : Int)]) = .returned (.tuple #[.int .u64 c, .int .u64 d]) := by rw [h, h']
theorem mulbits_low (p q : Int) (x y z : Nat) (w : World) (hp : p = x) (hq : q = y) (hx : x < 18446744073709551616) (hy : y < 18446744073709551616) (hz : x * y = z) (h : z < 18446744073709551616) :
    Calls Tryz.prog 110 #[.int .u64 p, .int .u64 q] w fun e w' => e = .returned (.tuple #[.int .u64 0, .int .u64 z]) ∧ w' = w := by
  subst hp hq
  have := Tryz.bits_Mul64 x y hx hy w
  rw [hz, Nat.div_eq_of_lt h, Nat.mod_eq_of_lt h] at this
  exact this
theorem mulbits_high (p q : Int) (x y z : Nat) (w : World) (hp : p = x) (hq : q = y) (hx : x < 18446744073709551616) (hy : y < 18446744073709551616) (hz : x * y = z) (h : 18446744073709551616 ≤ z) :
    Calls Tryz.prog 110 #[.int .u64 p, .int .u64 q] w fun e w' => ∃ a b : Nat, e = .returned (.tuple #[.int .u64 a, .int .u64 b]) ∧ ((a : Int) != 0) = true ∧ w' = w := by
  subst hp hq
  refine (Tryz.bits_Mul64 x y hx hy w).mono ?_
  rintro e w' ⟨rfl, rfl⟩
  refine ⟨_, _, rfl, ?_, rfl⟩
  rw [hz, bne_iff_ne]
  have : 1 ≤ z / 18446744073709551616 := (Nat.le_div_iff_mul_le (by decide)).2 (by omega)
  omega
set_option maxHeartbeats 400000 in
theorem lcm_left (b : Int) (w : World) :
    Calls Tryz.prog 43 #[.int .i64 0, .int .i64 b] w fun e w' => e = .returned (.tuple #[.int .i64 0, .int .i64 0]) ∧ w' = w := by
  go_enter Tryz.func43, Tryz.ntmps43
  go_wp2
  go_ret2
  exact ⟨rfl, rfl⟩
set_option maxHeartbeats 400000 in
theorem lcm_right (a : Int) (w : World) (za : a ≠ 0) :
    Calls Tryz.prog 43 #[.int .i64 a, .int .i64 0] w fun e w' => e = .returned (.tuple #[.int .i64 0, .int .i64 0]) ∧ w' = w := by
  have ta : (a == 0) = false := by rw [beq_eq_false_iff_ne]; exact za
  clear za
  go_enter Tryz.func43, Tryz.ntmps43
  go_wp2
  go_ret2
  exact ⟨rfl, rfl⟩


set_option maxHeartbeats 1000000 in
theorem lcm_yes (a b : Int) (g z : Nat) (w : World) (ha : -9223372036854775808 ≤ a) (ha' : a ≤ 9223372036854775807) (hb : -9223372036854775808 ≤ b) (hb' : b ≤ 9223372036854775807) (za : a ≠ 0) (zb : b ≠ 0) (hg : Nat.gcd a.natAbs b.natAbs = g) (hz : a.natAbs / g * b.natAbs = z) (h : z ≤ 9223372036854775807) :
    Calls Tryz.prog 43 #[.int .i64 a, .int .i64 b] w fun e w' => e = .returned (.tuple #[.int .i64 z, .int .i64 0]) ∧ ∃ n, w' = w.drewN n := by
  have HD := hide (fun w => divisor_any a.natAbs b.natAbs w (by omega) (by omega))
  rw [hg] at HD
  have gp : 0 < g := by rw [← hg]; exact Nat.gcd_pos_of_pos_left _ (by omega)
  have hd : a.natAbs / g ≤ a.natAbs := Nat.div_le_self _ _
  have HM := hide (fun w => mulbits_low ((a.natAbs : Int) / (g : Int)) (b.natAbs : Int) (a.natAbs / g) b.natAbs z w (by simp) rfl (by omega) (by omega) hz (by omega))
  clear hz
  have ta : (a == 0) = false := by rw [beq_eq_false_iff_ne]; exact za
  have tb : (b == 0) = false := by rw [beq_eq_false_iff_ne]; exact zb
  have tg : ((g : Int) == 0) = false := by rw [beq_eq_false_iff_ne]; omega
  have gu : g < 18446744073709551616 := by
    have := Nat.gcd_le_left b.natAbs (show 0 < a.natAbs by omega)
    rw [hg] at this; omega
  have gi : (0 : Int) < g := by omega
  have hdi : ((a.natAbs / g : Nat) : Int) = (a.natAbs : Int) / (g : Int) := by simp
  have d1 : (0 : Int) ≤ (a.natAbs : Int) / (g : Int) := by rw [← hdi]; exact Int.natCast_nonneg _
  have d2 : (a.natAbs : Int) / (g : Int) ≤ 18446744073709551615 := by rw [← hdi]; omega
  clear hg za zb hd gp hdi
  go_enter Tryz.func43, Tryz.ntmps43
  go_wp2_with (first
    | (go_at_call 109; refine (size_any _ _ (by omega) (by omega)).mono ?_; rintro e w' ⟨rfl, rfl⟩)
    | (go_at_call 108; refine (HD.out _).mono ?_; rintro e w' ⟨rfl, n, rfl⟩))
  refine (HM.out _).mono ?_
  rintro e w' ⟨rfl, rfl⟩
  go_wp2_with (go_at_call 107; refine (signed_yes _ _ h).mono ?_; rintro e w' ⟨rfl, rfl⟩)
  go_ret2
  exact ⟨rfl, n, rfl⟩

set_option maxHeartbeats 1000000 in
theorem lcm_mid (a b : Int) (g z : Nat) (w : World) (ha : -9223372036854775808 ≤ a) (ha' : a ≤ 9223372036854775807) (hb : -9223372036854775808 ≤ b) (hb' : b ≤ 9223372036854775807) (za : a ≠ 0) (zb : b ≠ 0) (hg : Nat.gcd a.natAbs b.natAbs = g) (hz : a.natAbs / g * b.natAbs = z) (h : 9223372036854775807 < z) (h2 : z < 18446744073709551616) :
    Calls Tryz.prog 43 #[.int .i64 a, .int .i64 b] w fun e w' => e = .returned (.tuple #[.int .i64 0, .int .i64 13]) ∧ ∃ n, w' = w.drewN n := by
  have HD := hide (fun w => divisor_any a.natAbs b.natAbs w (by omega) (by omega))
  rw [hg] at HD
  have gp : 0 < g := by rw [← hg]; exact Nat.gcd_pos_of_pos_left _ (by omega)
  have hd : a.natAbs / g ≤ a.natAbs := Nat.div_le_self _ _
  have HM := hide (fun w => mulbits_low ((a.natAbs : Int) / (g : Int)) (b.natAbs : Int) (a.natAbs / g) b.natAbs z w (by simp) rfl (by omega) (by omega) hz h2)
  clear hz
  have ta : (a == 0) = false := by rw [beq_eq_false_iff_ne]; exact za
  have tb : (b == 0) = false := by rw [beq_eq_false_iff_ne]; exact zb
  have tg : ((g : Int) == 0) = false := by rw [beq_eq_false_iff_ne]; omega
  have gu : g < 18446744073709551616 := by
    have := Nat.gcd_le_left b.natAbs (show 0 < a.natAbs by omega)
    rw [hg] at this; omega
  have gi : (0 : Int) < g := by omega
  have hdi : ((a.natAbs / g : Nat) : Int) = (a.natAbs : Int) / (g : Int) := by simp
  have d1 : (0 : Int) ≤ (a.natAbs : Int) / (g : Int) := by rw [← hdi]; exact Int.natCast_nonneg _
  have d2 : (a.natAbs : Int) / (g : Int) ≤ 18446744073709551615 := by rw [← hdi]; omega
  clear hg za zb hd gp hdi
  go_enter Tryz.func43, Tryz.ntmps43
  go_wp2_with (first
    | (go_at_call 109; refine (size_any _ _ (by omega) (by omega)).mono ?_; rintro e w' ⟨rfl, rfl⟩)
    | (go_at_call 108; refine (HD.out _).mono ?_; rintro e w' ⟨rfl, n, rfl⟩))
  refine (HM.out _).mono ?_
  rintro e w' ⟨rfl, rfl⟩
  go_wp2_with (go_at_call 107; refine (signed_no _ _ h).mono ?_; rintro e w' ⟨rfl, rfl⟩)
  go_ret2
  exact ⟨rfl, n, rfl⟩

set_option maxHeartbeats 1000000 in
theorem lcm_high (a b : Int) (g z : Nat) (w : World) (ha : -9223372036854775808 ≤ a) (ha' : a ≤ 9223372036854775807) (hb : -9223372036854775808 ≤ b) (hb' : b ≤ 9223372036854775807) (za : a ≠ 0) (zb : b ≠ 0) (hg : Nat.gcd a.natAbs b.natAbs = g) (hz : a.natAbs / g * b.natAbs = z) (h : 18446744073709551616 ≤ z) :
    Calls Tryz.prog 43 #[.int .i64 a, .int .i64 b] w fun e w' => e = .returned (.tuple #[.int .i64 0, .int .i64 13]) ∧ ∃ n, w' = w.drewN n := by
  have HD := hide (fun w => divisor_any a.natAbs b.natAbs w (by omega) (by omega))
  rw [hg] at HD
  have gp : 0 < g := by rw [← hg]; exact Nat.gcd_pos_of_pos_left _ (by omega)
  have hd : a.natAbs / g ≤ a.natAbs := Nat.div_le_self _ _
  have HM := hide (fun w => mulbits_high ((a.natAbs : Int) / (g : Int)) (b.natAbs : Int) (a.natAbs / g) b.natAbs z w (by simp) rfl (by omega) (by omega) hz h)
  clear hz
  have ta : (a == 0) = false := by rw [beq_eq_false_iff_ne]; exact za
  have tb : (b == 0) = false := by rw [beq_eq_false_iff_ne]; exact zb
  have tg : ((g : Int) == 0) = false := by rw [beq_eq_false_iff_ne]; omega
  have gu : g < 18446744073709551616 := by
    have := Nat.gcd_le_left b.natAbs (show 0 < a.natAbs by omega)
    rw [hg] at this; omega
  have gi : (0 : Int) < g := by omega
  have hdi : ((a.natAbs / g : Nat) : Int) = (a.natAbs : Int) / (g : Int) := by simp
  have d1 : (0 : Int) ≤ (a.natAbs : Int) / (g : Int) := by rw [← hdi]; exact Int.natCast_nonneg _
  have d2 : (a.natAbs : Int) / (g : Int) ≤ 18446744073709551615 := by rw [← hdi]; omega
  clear hg za zb hd gp hdi
  go_enter Tryz.func43, Tryz.ntmps43
  go_wp2_with (first
    | (go_at_call 109; refine (size_any _ _ (by omega) (by omega)).mono ?_; rintro e w' ⟨rfl, rfl⟩)
    | (go_at_call 108; refine (HD.out _).mono ?_; rintro e w' ⟨rfl, n, rfl⟩))
  refine (HM.out _).mono ?_
  rintro e w' ⟨h1, h2, rfl, h3, rfl⟩
  go_wp2
  go_ret2
  exact ⟨rfl, n, rfl⟩
end Go.Proofs.YtgnmkhjilecdhaaGreatDoor
