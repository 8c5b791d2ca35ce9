/- The reference's Gcd and Lcm: what each answers, proved of the Go text; they answer as package whole's do. -/
import Derived.Test.YtoedgailgejafaaDoorRefC
import Derived.Test.YtoedgailgejafaaDoorGcd
namespace Go.Proofs.YtoedgailgejafaaDoor
open Go.RowKit Go.Sort
set_option linter.unusedVariables false

set_option maxHeartbeats 1000000 in
theorem refgcd (x y : Nat) (w : World) (hx : x < 18446744073709551616) (hy : y < 18446744073709551616) :
    Calls Tryd.prog 55 #[.int .u64 x, .int .u64 y] w fun e w' => e = .returned (.int .u64 (Nat.gcd x y : Nat)) ∧ w' = w := by
  obtain ⟨g, hg⟩ : ∃ g, Nat.gcd x y = g := ⟨_, rfl⟩
  rw [hg]
  have HG := hide hg
  clear hg
  go_enter Tryd.func55, Tryd.ntmps55
  go_wp2
  go_loop [0, 1] (fun p q => ∃ a b : Nat, p = .int .u64 a ∧ q = .int .u64 b ∧ Hid (Nat.gcd a b = g) ∧ a < 18446744073709551616 ∧ b < 18446744073709551616) (fun _ q => (intOf q).toNat)
  case atStart => exact ⟨x, y, rfl, rfl, HG, hx, hy⟩
  case round =>
    obtain ⟨a, b, rfl, rfl, Hg, ha, hb⟩ := hrel
    by_cases hz : b = 0
    · subst hz
      have He := hide (show a = g by have := Hg.out; rwa [Nat.gcd_zero_right] at this)
      go_wp2
      go_ret
      exact ⟨ret_int (by rw [He.out]), rfl⟩
    · have t : (0 : Int) < (b : Int) := by omega
      have t' : 0 < b := by omega
      have t2 : ((b : Int) == 0) = false := by rw [beq_eq_false_iff_ne]; omega
      have Hn := hide (show Nat.gcd b (a % b) = g by rw [← Hg.out, Nat.gcd_comm a b, Nat.gcd_comm b (a % b)]; exact (Nat.gcd_rec b a).symm)
      have hlt : a % b < b := Nat.mod_lt _ (by omega)
      go_wp2
      go_round
      case rel => exact ⟨b, a % b, rfl, by simp, Hn, hb, by omega⟩
      case measure => simp [intOf]; omega

theorem field2 (s o : Bool) (m : Int) (w : World) : (Instr.field 57 (num s o m) 2).run Tryd.prog w = .ok (.int .u64 m) w := by kernel_rfl
set_option maxHeartbeats 1000000 in
theorem refGcd_as (a b : Int) (g : Nat) (v e0 : Int) (w : World) (ha : -9223372036854775808 ≤ a) (ha' : a ≤ 9223372036854775807) (hb : -9223372036854775808 ≤ b) (hb' : b ≤ 9223372036854775807) (hg : Nat.gcd a.natAbs b.natAbs = g)
    (HT : Hid (∀ w, Calls Tryd.prog 50 #[num false false g] w fun e w' => e = .returned (.tuple #[.int .i64 v, .int .i64 e0]) ∧ Below w.heap.size w w')) :
    Calls Tryd.prog 35 #[.int .i64 a, .int .i64 b] w fun e w' => e = .returned (.tuple #[.int .i64 v, .int .i64 e0]) ∧ Below w.heap.size w w' := by
  have HD := hide (fun w => refgcd a.natAbs b.natAbs w (by omega) (by omega))
  have hfd := field2
  rw [hg] at HD
  clear hg
  go_enter Tryd.func35, Tryd.ntmps35
  go_wp2_with (first
    | (go_at_call 49; refine (of_as _ _ _ _ (by omega) (by omega) rfl rfl).mono ?_; rintro e w' ⟨rfl, rfl⟩)
    | (go_at_call 55; refine (HD.out _).mono ?_; rintro e w' ⟨rfl, rfl⟩)
    | (go_at_call 50; refine (HT.out _).mono ?_; rintro e w1 ⟨rfl, hb1⟩))
  go_ret2
  refine ⟨rfl, Below.trans ?_ (hb1.mono ?_)⟩
  · go_grown
  · simp; omega
theorem gcd_agree (a b : Int) (ha : -9223372036854775808 ≤ a) (ha' : a ≤ 9223372036854775807) (hb : -9223372036854775808 ≤ b) (hb' : b ≤ 9223372036854775807) : Agree2 28 35 #[.int .i64 a, .int .i64 b] := by
  obtain ⟨g, hg⟩ : ∃ g, Nat.gcd a.natAbs b.natAbs = g := ⟨_, rfl⟩
  have gu : g ≤ 9223372036854775808 := by
    by_cases h : a = 0
    · subst h; rw [show (0 : Int).natAbs = 0 from rfl, Nat.gcd_zero_left] at hg; omega
    · have := Nat.gcd_le_left b.natAbs (show 0 < a.natAbs by omega)
      rw [hg] at this; omega
  have hn := isN_plain false (g : Int) (by omega) (by omega)
  rw [show sval false (g : Int) = g from rfl] at hn
  by_cases h : g ≤ 9223372036854775807
  · exact ⟨g, 0, fun w => below_draws (gcd_yes a b g w ha ha' hb hb' hg h), fun w => refGcd_as a b g _ 0 w ha ha' hb hb' hg (hide (fun w => told_yes _ _ _ _ w hn ⟨by omega, by omega⟩))⟩
  · exact ⟨0, 13, fun w => below_draws (gcd_no a b g w ha ha' hb hb' hg (by omega)), fun w => refGcd_as a b g _ 13 w ha ha' hb hb' hg (hide (fun w => told_no _ _ _ _ w hn (fun h' => by have := h'.2; omega)))⟩
set_option maxHeartbeats 400000 in
theorem refLcm_left (b : Int) (w : World) :
    Calls Tryd.prog 36 #[.int .i64 0, .int .i64 b] w fun e w' => e = .returned (.tuple #[.int .i64 0, .int .i64 0]) ∧ Below w.heap.size w w' := by
  go_enter Tryd.func36, Tryd.ntmps36
  go_wp2
  go_ret2
  exact ⟨rfl, Below.refl _ _⟩
set_option maxHeartbeats 400000 in
theorem refLcm_right (a : Int) (w : World) (za : a ≠ 0) :
    Calls Tryd.prog 36 #[.int .i64 a, .int .i64 0] w fun e w' => e = .returned (.tuple #[.int .i64 0, .int .i64 0]) ∧ Below w.heap.size w w' := by
  have ta : (a == 0) = false := by rw [beq_eq_false_iff_ne]; exact za
  clear za
  go_enter Tryd.func36, Tryd.ntmps36
  go_wp2
  go_ret2
  exact ⟨rfl, Below.refl _ _⟩
set_option maxHeartbeats 1000000 in
theorem refLcm_as (a b : Int) (g : Nat) (v e0 : Int) (w : World) (ha : -9223372036854775808 ≤ a) (ha' : a ≤ 9223372036854775807) (hb : -9223372036854775808 ≤ b) (hb' : b ≤ 9223372036854775807) (za : a ≠ 0) (zb : b ≠ 0) (hg : Nat.gcd a.natAbs b.natAbs = g)
    (HP : Hid (∀ w, Calls Tryd.prog 53 #[num false false ((a.natAbs : Int) / (g : Int)), num false false (b.natAbs : Int)] w fun e w' => ∃ r o c, e = .returned (num r o c) ∧ Hid (∀ w, Calls Tryd.prog 50 #[num r o c] w fun e w' => e = .returned (.tuple #[.int .i64 v, .int .i64 e0]) ∧ Below w.heap.size w w') ∧ Below w.heap.size w w')) :
    Calls Tryd.prog 36 #[.int .i64 a, .int .i64 b] w fun e w' => e = .returned (.tuple #[.int .i64 v, .int .i64 e0]) ∧ Below w.heap.size w w' := by
  have HD := hide (fun w => refgcd a.natAbs b.natAbs w (by omega) (by omega))
  have hfd := field2
  rw [hg] at HD
  have gp : 0 < g := by rw [← hg]; exact Nat.gcd_pos_of_pos_left _ (by omega)
  have hd : a.natAbs / g ≤ a.natAbs := Nat.div_le_self _ _
  have ta : (a == 0) = false := by rw [beq_eq_false_iff_ne]; exact za
  have tb : (b == 0) = false := by rw [beq_eq_false_iff_ne]; exact zb
  have tg : ((g : Int) == 0) = false := by rw [beq_eq_false_iff_ne]; omega
  have gu : g < 18446744073709551616 := by
    have := Nat.gcd_le_left b.natAbs (show 0 < a.natAbs by omega)
    rw [hg] at this; omega
  have gi : (0 : Int) < g := by omega
  have hdi : ((a.natAbs / g : Nat) : Int) = (a.natAbs : Int) / (g : Int) := by simp
  have d1 : (0 : Int) ≤ (a.natAbs : Int) / (g : Int) := by rw [← hdi]; exact Int.natCast_nonneg _
  have d2 : (a.natAbs : Int) / (g : Int) ≤ 18446744073709551615 := by rw [← hdi]; omega
  clear hg za zb hd gp hdi
  go_enter Tryd.func36, Tryd.ntmps36
  go_wp2_with (first
    | (go_at_call 49; refine (of_as _ _ _ _ (by omega) (by omega) rfl rfl).mono ?_; rintro e w' ⟨rfl, rfl⟩)
    | (go_at_call 55; refine (HD.out _).mono ?_; rintro e w' ⟨rfl, rfl⟩))
  refine (HP.out _).mono ?_
  rintro e w1 ⟨r, o, c, rfl, HT, hb1⟩
  go_wp2_with (go_at_call 50; refine (HT.out _).mono ?_; rintro e w2 ⟨rfl, hb2⟩)
  go_ret2
  have z1 := hb1.size
  simp at z1
  refine ⟨rfl, Below.trans (Below.trans ?_ (hb1.mono ?_)) (hb2.mono ?_)⟩
  · go_grown
  · simp; omega
  · omega
theorem lcm_agree (a b : Int) (ha : -9223372036854775808 ≤ a) (ha' : a ≤ 9223372036854775807) (hb : -9223372036854775808 ≤ b) (hb' : b ≤ 9223372036854775807) : Agree2 29 36 #[.int .i64 a, .int .i64 b] := by
  by_cases za : a = 0
  · subst za
    exact ⟨0, 0, fun w => below_same (lcm_left b w), fun w => refLcm_left b w⟩
  by_cases zb : b = 0
  · subst zb
    exact ⟨0, 0, fun w => below_same (lcm_right a w za), fun w => refLcm_right a w za⟩
  obtain ⟨g, hg⟩ : ∃ g, Nat.gcd a.natAbs b.natAbs = g := ⟨_, rfl⟩
  obtain ⟨z, hz⟩ : ∃ z, a.natAbs / g * b.natAbs = z := ⟨_, rfl⟩
  have hd : a.natAbs / g ≤ a.natAbs := Nat.div_le_self _ _
  have hdi : ((a.natAbs / g : Nat) : Int) = (a.natAbs : Int) / (g : Int) := by simp
  have h1 := isN_plain false ((a.natAbs : Int) / (g : Int)) (by rw [← hdi]; exact Int.natCast_nonneg _) (by rw [← hdi]; omega)
  have h2 := isN_plain false (b.natAbs : Int) (by omega) (by omega)
  have hp := fun w => product_is _ _ _ _ _ _ w h1 h2
  rw [show sval false ((a.natAbs : Int) / (g : Int)) * sval false (b.natAbs : Int) = (z : Int) by show (a.natAbs : Int) / (g : Int) * (b.natAbs : Int) = _; rw [← hdi, ← Int.natCast_mul, hz]] at hp
  by_cases h : z ≤ 9223372036854775807
  · refine ⟨z, 0, fun w => below_draws (lcm_yes a b g z w ha ha' hb hb' za zb hg hz h), fun w => refLcm_as a b g _ 0 w ha ha' hb hb' za zb hg (hide (fun w => (hp w).mono ?_))⟩
    rintro e w' ⟨r, o, c, he, hn, hb1⟩
    exact ⟨r, o, c, he, hide (fun w => told_yes _ _ _ _ w hn ⟨by omega, by omega⟩), hb1⟩
  · have whole : ∀ w, Calls Tryd.prog 29 #[.int .i64 a, .int .i64 b] w fun e w' => e = .returned (.tuple #[.int .i64 0, .int .i64 13]) ∧ ∃ n, w' = w.drewN n := fun w => by
      by_cases h3 : z < 18446744073709551616
      · exact lcm_mid a b g z w ha ha' hb hb' za zb hg hz (by omega) h3
      · exact lcm_high a b g z w ha ha' hb hb' za zb hg hz (by omega)
    refine ⟨0, 13, fun w => below_draws (whole w), fun w => refLcm_as a b g _ 13 w ha ha' hb hb' za zb hg (hide (fun w => (hp w).mono ?_))⟩
    rintro e w' ⟨r, o, c, he, hn, hb1⟩
    exact ⟨r, o, c, he, hide (fun w => told_no _ _ _ _ w hn (fun h' => by have := h'.2; omega)), hb1⟩
end Go.Proofs.YtoedgailgejafaaDoor
