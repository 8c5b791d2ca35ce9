/- The reference's Pow: what it answers, proved of the Go text; it answers as package whole's does. -/
import Derived.Test.YtoedgailgejafaaDoorRefC
import Derived.Test.YtoedgailgejafaaDoorPow
import Derived.Deep.RegionWith
namespace Go.Proofs.YtoedgailgejafaaDoor
open Go.RowKit Go.Sort
set_option linter.unusedVariables false

theorem below2 (w : World) (a b : Obj) : Below w.heap.size w ((w.alloc a).alloc b) :=
  ((Below.refl _ _).alloc (Nat.le_refl _) _).alloc (by simp) _
set_option maxHeartbeats 2000000 in
theorem refPow_grow_yes (a : Int) (n : Nat) (w : World) (ha : -9223372036854775808 ≤ a) (ha' : a ≤ 9223372036854775807) (hn : (n : Int) ≤ 9223372036854775807) (h2 : 2 ≤ a.natAbs) (hf : Fit (a ^ n)) (h0 : 1 ≤ n) :
    Calls Tryd.prog 34 #[.int .i64 a, .int .i64 n] w fun e w' => e = .returned (.tuple #[.int .i64 (a ^ n), .int .i64 0]) ∧ Below w.heap.size w w' := by
  have HF := hide hf
  have H2 := hide h2
  have HA := hide (isN_of a ha ha')
  obtain ⟨z, hz⟩ : ∃ z, z = a ^ n := ⟨_, rfl⟩
  rw [← hz]
  have HZ := hide hz
  have t0 : ¬ (n : Int) < 0 := by omega
  have t1 : (a == 0) = false := by rw [beq_eq_false_iff_ne]; omega
  have t2 : (a == 1) = false := by rw [beq_eq_false_iff_ne]; omega
  have t3 : (a == -1) = false := by rw [beq_eq_false_iff_ne]; omega
  have t4 : ((n : Int) == 0) = false := by rw [beq_eq_false_iff_ne]; omega
  clear hf h2 hz h0
  go_enter Tryd.func34, Tryd.ntmps34
  go_wp2_with (go_at_call 49; refine (of_as 1 false 1 _ (by decide) (by decide) rfl rfl).mono ?_; rintro e w' ⟨rfl, rfl⟩)
  go_loopw [7] (fun i wr => ∃ (k : Nat) (v : Int) (s : Bool) (m : Int), k ≤ n ∧ i = .int .i64 k ∧ Hid (v = a ^ k) ∧ Hid (Fit v) ∧ Hid (IsN s false m v) ∧ wr.cell? ⟨w.heap.size + 1, 0, none⟩ = some (.bool s) ∧ wr.cell? ⟨w.heap.size + 1, 1, none⟩ = some (.bool false) ∧ wr.cell? ⟨w.heap.size + 1, 2, none⟩ = some (.int .u64 m) ∧ wr.frozen? ⟨w.heap.size + 1, 0, none⟩ = false ∧ wr.frozen? ⟨w.heap.size + 1, 1, none⟩ = false ∧ wr.frozen? ⟨w.heap.size + 1, 2, none⟩ = false ∧ w.heap.size + 1 < wr.heap.size ∧ Hid (Below w.heap.size w wr)) (fun i _ => n - (intOf i).toNat)
  case atStart =>
    refine ⟨0, 1, false, 1, Nat.zero_le _, rfl, hide (Int.pow_zero a).symm, hide ⟨by decide, by decide⟩, hide (isN_plain false 1 (by decide) (by decide)), ?_, ?_, ?_, ?_, ?_, ?_, ?_, ?_⟩
    any_goals go_simp
    exact hide (below2 w _ _)
  case round =>
    obtain ⟨k, v, s, m, hk, rfl, Hv, Hf, Hn, c0, c1, c2, f0, f1, f2, hsz, Hb⟩ := hrel
    by_cases hlt : k < n
    · have Hm : Hid (Fit (v * a)) := by
        rw [Hv.out, ← Int.pow_succ]
        exact Classical.byContradiction fun h => pow_grow a (k + 1) n H2.out (by omega) h HF.out
      have Hx : Hid (v * a = a ^ (k + 1)) := by rw [Hv.out, ← Int.pow_succ]; rfl
      go_wp2
      go_region_with (first
        | (go_at_call 49; refine (of_as _ _ _ _ (by omega) (by omega) rfl rfl).mono ?_; rintro e w' ⟨rfl, rfl⟩)
        | (go_at_call 53; refine (product_is _ _ _ _ _ _ _ Hn.out HA.out).mono ?_; rintro e w1 ⟨r, o, c, rfl, hn1, hb1⟩; have q : Below wr.heap.size wr w1 := Below.trans (by go_grown) (hb1.mono (by simp)); have y0 := (q.cell (p := ⟨w.heap.size + 1, 0, none⟩) hsz).trans c0; have y1 := (q.cell (p := ⟨w.heap.size + 1, 1, none⟩) hsz).trans c1; have y2 := (q.cell (p := ⟨w.heap.size + 1, 2, none⟩) hsz).trans c2; have x0 := (q.frozen (p := ⟨w.heap.size + 1, 0, none⟩) hsz).trans f0; have x1 := (q.frozen (p := ⟨w.heap.size + 1, 1, none⟩) hsz).trans f1; have x2 := (q.frozen (p := ⟨w.heap.size + 1, 2, none⟩) hsz).trans f2; have Hq := hide q; have Hn1 := hide hn1; clear hb1 hn1 q))
      all_goals
        obtain rfl : o = false := by
          cases o
          · rfl
          · have h3 := Hn1.out.2.2.2 rfl
            have h4 := Hm.out
            unfold Fit at h4
            omega
        go_wp2_with (go_at_call 54; refine (fits_is_yes _ _ _ _ _ Hn1.out Hm.out).mono ?_; rintro e w2 ⟨rfl, hb2⟩)
        have zq := Hq.out.size
        have zb := hb2.size
        simp at zb
        have hw2 : w.heap.size ≤ wr.heap.size := by omega
        have k2 : Below w.heap.size w w2 := by
          refine Below.trans (Below.setCell (Below.setCell (Below.setCell (Hb.out.trans (Hq.out.mono hw2)) ?_ _) ?_ _) ?_ _) (hb2.mono ?_)
          · simp
          · simp
          · simp
          · simp; omega
        have e0 : w2.cell? ⟨w.heap.size + 1, 0, none⟩ = some (.bool r) := (hb2.cell (p := ⟨w.heap.size + 1, 0, none⟩) (by simp; omega)).trans (by go_simp)
        have e1 : w2.cell? ⟨w.heap.size + 1, 1, none⟩ = some (.bool false) := (hb2.cell (p := ⟨w.heap.size + 1, 1, none⟩) (by simp; omega)).trans (by go_simp)
        have e2 : w2.cell? ⟨w.heap.size + 1, 2, none⟩ = some (.int .u64 c) := (hb2.cell (p := ⟨w.heap.size + 1, 2, none⟩) (by simp; omega)).trans (by go_simp)
        have g0 : w2.frozen? ⟨w.heap.size + 1, 0, none⟩ = false := (hb2.frozen (p := ⟨w.heap.size + 1, 0, none⟩) (by simp; omega)).trans (by go_simp)
        have g1 : w2.frozen? ⟨w.heap.size + 1, 1, none⟩ = false := (hb2.frozen (p := ⟨w.heap.size + 1, 1, none⟩) (by simp; omega)).trans (by go_simp)
        have g2 : w2.frozen? ⟨w.heap.size + 1, 2, none⟩ = false := (hb2.frozen (p := ⟨w.heap.size + 1, 2, none⟩) (by simp; omega)).trans (by go_simp)
        have hz2 : w.heap.size + 1 < w2.heap.size := by omega
        have Hk2 := hide k2
        clear hb2 k2 y0 y1 y2 x0 x1 x2 c0 c1 c2 f0 f1 f2
        go_roundw
        case rel => exact ⟨k + 1, v * a, r, c, by omega, by go_num, Hx, Hm, Hn1, e0, e1, e2, g0, g1, g2, hz2, Hk2⟩
        case measure => simp [intOf]; omega
    · have Hw : Hid (v = z) := by rw [Hv.out, HZ.out, show k = n by omega]; rfl
      have hbs := Hb.out.size
      go_wp2_with (go_at_call 50; refine (told_yes _ _ _ _ _ Hn.out Hf.out).mono ?_; rintro e w2 ⟨rfl, hb2⟩)
      go_ret2
      exact ⟨ret_ii Hw.out rfl, Hb.out.trans (hb2.mono hbs)⟩

set_option maxHeartbeats 2000000 in
theorem refPow_grow_no (a : Int) (n : Nat) (w : World) (ha : -9223372036854775808 ≤ a) (ha' : a ≤ 9223372036854775807) (hn : (n : Int) ≤ 9223372036854775807) (h2 : 2 ≤ a.natAbs) (hf : ¬ Fit (a ^ n)) (h0 : 1 ≤ n) :
    Calls Tryd.prog 34 #[.int .i64 a, .int .i64 n] w fun e w' => e = .returned (.tuple #[.int .i64 0, .int .i64 13]) ∧ Below w.heap.size w w' := by
  have HF := hide hf
  have H2 := hide h2
  have HA := hide (isN_of a ha ha')
  have t0 : ¬ (n : Int) < 0 := by omega
  have t1 : (a == 0) = false := by rw [beq_eq_false_iff_ne]; omega
  have t2 : (a == 1) = false := by rw [beq_eq_false_iff_ne]; omega
  have t3 : (a == -1) = false := by rw [beq_eq_false_iff_ne]; omega
  have t4 : ((n : Int) == 0) = false := by rw [beq_eq_false_iff_ne]; omega
  clear hf h2 h0
  go_enter Tryd.func34, Tryd.ntmps34
  go_wp2_with (go_at_call 49; refine (of_as 1 false 1 _ (by decide) (by decide) rfl rfl).mono ?_; rintro e w' ⟨rfl, rfl⟩)
  go_loopw [7] (fun i wr => ∃ (k : Nat) (v : Int) (s : Bool) (m : Int), k ≤ n ∧ i = .int .i64 k ∧ Hid (v = a ^ k) ∧ Hid (Fit v) ∧ Hid (IsN s false m v) ∧ wr.cell? ⟨w.heap.size + 1, 0, none⟩ = some (.bool s) ∧ wr.cell? ⟨w.heap.size + 1, 1, none⟩ = some (.bool false) ∧ wr.cell? ⟨w.heap.size + 1, 2, none⟩ = some (.int .u64 m) ∧ wr.frozen? ⟨w.heap.size + 1, 0, none⟩ = false ∧ wr.frozen? ⟨w.heap.size + 1, 1, none⟩ = false ∧ wr.frozen? ⟨w.heap.size + 1, 2, none⟩ = false ∧ w.heap.size + 1 < wr.heap.size ∧ Hid (Below w.heap.size w wr)) (fun i _ => n - (intOf i).toNat)
  case atStart =>
    refine ⟨0, 1, false, 1, Nat.zero_le _, rfl, hide (Int.pow_zero a).symm, hide ⟨by decide, by decide⟩, hide (isN_plain false 1 (by decide) (by decide)), ?_, ?_, ?_, ?_, ?_, ?_, ?_, ?_⟩
    any_goals go_simp
    exact hide (below2 w _ _)
  case round =>
    obtain ⟨k, v, s, m, hk, rfl, Hv, Hf, Hn, c0, c1, c2, f0, f1, f2, hsz, Hb⟩ := hrel
    by_cases hlt : k < n
    · have Hx : Hid (v * a = a ^ (k + 1)) := by rw [Hv.out, ← Int.pow_succ]; rfl
      go_wp2
      go_region_with (first
        | (go_at_call 49; refine (of_as _ _ _ _ (by omega) (by omega) rfl rfl).mono ?_; rintro e w' ⟨rfl, rfl⟩)
        | (go_at_call 53; refine (product_is _ _ _ _ _ _ _ Hn.out HA.out).mono ?_; rintro e w1 ⟨r, o, c, rfl, hn1, hb1⟩; have q : Below wr.heap.size wr w1 := Below.trans (by go_grown) (hb1.mono (by simp)); have y0 := (q.cell (p := ⟨w.heap.size + 1, 0, none⟩) hsz).trans c0; have y1 := (q.cell (p := ⟨w.heap.size + 1, 1, none⟩) hsz).trans c1; have y2 := (q.cell (p := ⟨w.heap.size + 1, 2, none⟩) hsz).trans c2; have x0 := (q.frozen (p := ⟨w.heap.size + 1, 0, none⟩) hsz).trans f0; have x1 := (q.frozen (p := ⟨w.heap.size + 1, 1, none⟩) hsz).trans f1; have x2 := (q.frozen (p := ⟨w.heap.size + 1, 2, none⟩) hsz).trans f2; have Hq := hide q; have Hn1 := hide hn1; clear hb1 hn1 q))
      all_goals
        by_cases hm : Fit (v * a)
        · have Hm := hide hm
          clear hm
          obtain rfl : o = false := by
            cases o
            · rfl
            · have h3 := Hn1.out.2.2.2 rfl
              have h4 := Hm.out
              unfold Fit at h4
              omega
          go_wp2_with (go_at_call 54; refine (fits_is_yes _ _ _ _ _ Hn1.out Hm.out).mono ?_; rintro e w2 ⟨rfl, hb2⟩)
          have zq := Hq.out.size
          have zb := hb2.size
          simp at zb
          have hw2 : w.heap.size ≤ wr.heap.size := by omega
          have k2 : Below w.heap.size w w2 := by
            refine Below.trans (Below.setCell (Below.setCell (Below.setCell (Hb.out.trans (Hq.out.mono hw2)) ?_ _) ?_ _) ?_ _) (hb2.mono ?_)
            · simp
            · simp
            · simp
            · simp; omega
          have e0 : w2.cell? ⟨w.heap.size + 1, 0, none⟩ = some (.bool r) := (hb2.cell (p := ⟨w.heap.size + 1, 0, none⟩) (by simp; omega)).trans (by go_simp)
          have e1 : w2.cell? ⟨w.heap.size + 1, 1, none⟩ = some (.bool false) := (hb2.cell (p := ⟨w.heap.size + 1, 1, none⟩) (by simp; omega)).trans (by go_simp)
          have e2 : w2.cell? ⟨w.heap.size + 1, 2, none⟩ = some (.int .u64 c) := (hb2.cell (p := ⟨w.heap.size + 1, 2, none⟩) (by simp; omega)).trans (by go_simp)
          have g0 : w2.frozen? ⟨w.heap.size + 1, 0, none⟩ = false := (hb2.frozen (p := ⟨w.heap.size + 1, 0, none⟩) (by simp; omega)).trans (by go_simp)
          have g1 : w2.frozen? ⟨w.heap.size + 1, 1, none⟩ = false := (hb2.frozen (p := ⟨w.heap.size + 1, 1, none⟩) (by simp; omega)).trans (by go_simp)
          have g2 : w2.frozen? ⟨w.heap.size + 1, 2, none⟩ = false := (hb2.frozen (p := ⟨w.heap.size + 1, 2, none⟩) (by simp; omega)).trans (by go_simp)
          have hz2 : w.heap.size + 1 < w2.heap.size := by omega
          have Hk2 := hide k2
          clear hb2 k2 y0 y1 y2 x0 x1 x2 c0 c1 c2 f0 f1 f2
          go_roundw
          case rel => exact ⟨k + 1, v * a, r, c, by omega, by go_num, Hx, Hm, Hn1, e0, e1, e2, g0, g1, g2, hz2, Hk2⟩
          case measure => simp [intOf]; omega

        · have Hm := hide hm
          clear hm
          go_wp2_with (go_at_call 54; refine (fits_is_no _ _ _ _ _ Hn1.out Hm.out).mono ?_; rintro e w2 ⟨rfl, hb2⟩)
          have zq := Hq.out.size
          have hw2 : w.heap.size ≤ wr.heap.size := by omega
          go_ret2
          refine ⟨rfl, Below.trans (Below.setCell (Below.setCell (Below.setCell (Hb.out.trans (Hq.out.mono hw2)) ?_ _) ?_ _) ?_ _) (hb2.mono ?_)⟩
          · simp
          · simp
          · simp
          · simp; omega
    · exfalso
      apply HF.out
      rw [show n = k by omega, ← Hv.out]
      exact Hf.out

set_option maxHeartbeats 400000 in
theorem refPow_neg (a b : Int) (w : World) (hb : b < 0) :
    Calls Tryd.prog 34 #[.int .i64 a, .int .i64 b] w fun e w' => e = .returned (.tuple #[.int .i64 0, .int .i64 13]) ∧ Below w.heap.size w w' := by
  go_enter Tryd.func34, Tryd.ntmps34
  go_wp2
  go_ret2
  exact ⟨rfl, Below.refl _ _⟩

set_option maxHeartbeats 400000 in
theorem refPow_zz (w : World) :
    Calls Tryd.prog 34 #[.int .i64 0, .int .i64 0] w fun e w' => e = .returned (.tuple #[.int .i64 1, .int .i64 0]) ∧ Below w.heap.size w w' := by
  go_enter Tryd.func34, Tryd.ntmps34
  go_wp2
  go_ret2
  exact ⟨rfl, Below.refl _ _⟩

set_option maxHeartbeats 400000 in
theorem refPow_oz (w : World) :
    Calls Tryd.prog 34 #[.int .i64 1, .int .i64 0] w fun e w' => e = .returned (.tuple #[.int .i64 1, .int .i64 0]) ∧ Below w.heap.size w w' := by
  go_enter Tryd.func34, Tryd.ntmps34
  go_wp2
  go_ret2
  exact ⟨rfl, Below.refl _ _⟩

set_option maxHeartbeats 400000 in
theorem refPow_az (a : Int) (w : World) (t1 : (a == 0) = false) (t2 : (a == 1) = false) :
    Calls Tryd.prog 34 #[.int .i64 a, .int .i64 0] w fun e w' => e = .returned (.tuple #[.int .i64 1, .int .i64 0]) ∧ Below w.heap.size w w' := by
  go_enter Tryd.func34, Tryd.ntmps34
  go_wp2
  go_ret2
  exact ⟨rfl, Below.refl _ _⟩

set_option maxHeartbeats 400000 in
theorem refPow_zn (n : Nat) (w : World) (h0 : n ≠ 0) :
    Calls Tryd.prog 34 #[.int .i64 0, .int .i64 n] w fun e w' => e = .returned (.tuple #[.int .i64 0, .int .i64 0]) ∧ Below w.heap.size w w' := by
  have t0 : ¬ (n : Int) < 0 := by omega
  have t4 : ((n : Int) == 0) = false := by rw [beq_eq_false_iff_ne]; omega
  have t5 : (0 : Int) < n := by omega
  have t6 : 0 < n := by omega
  clear h0
  go_enter Tryd.func34, Tryd.ntmps34
  go_wp2
  go_ret2
  exact ⟨rfl, Below.refl _ _⟩

set_option maxHeartbeats 400000 in
theorem refPow_on (n : Nat) (w : World) (h0 : n ≠ 0) :
    Calls Tryd.prog 34 #[.int .i64 1, .int .i64 n] w fun e w' => e = .returned (.tuple #[.int .i64 1, .int .i64 0]) ∧ Below w.heap.size w w' := by
  have t0 : ¬ (n : Int) < 0 := by omega
  have t4 : ((n : Int) == 0) = false := by rw [beq_eq_false_iff_ne]; omega
  have t5 : (0 : Int) < n := by omega
  have t6 : 0 < n := by omega
  clear h0
  go_enter Tryd.func34, Tryd.ntmps34
  go_wp2
  go_ret2
  exact ⟨rfl, Below.refl _ _⟩

set_option maxHeartbeats 400000 in
theorem refPow_mn (n : Nat) (w : World) (h0 : n ≠ 0) (hn : (n : Int) ≤ 9223372036854775807) :
    Calls Tryd.prog 34 #[.int .i64 (-1), .int .i64 n] w fun e w' => e = .returned (.tuple #[.int .i64 (1 - 2 * ((n : Int) % 2)), .int .i64 0]) ∧ Below w.heap.size w w' := by
  have t0 : ¬ (n : Int) < 0 := by omega
  have t4 : ((n : Int) == 0) = false := by rw [beq_eq_false_iff_ne]; omega
  have t5 : (0 : Int) < n := by omega
  have t6 : 0 < n := by omega
  clear h0
  have m1 : 0 ≤ (n : Int) % 2 := by omega
  have m2 : (n : Int) % 2 ≤ 1 := by omega
  go_enter Tryd.func34, Tryd.ntmps34
  go_wp2
  go_ret2
  exact ⟨rfl, Below.refl _ _⟩

theorem pow_agree (a b : Int) (ha : -9223372036854775808 ≤ a) (ha' : a ≤ 9223372036854775807) (hb : -9223372036854775808 ≤ b) (hb' : b ≤ 9223372036854775807) : Agree2 33 34 #[.int .i64 a, .int .i64 b] := by
  by_cases hn : b < 0
  · exact ⟨0, 13, fun w => below_same (pow_neg a b w hn), fun w => refPow_neg a b w hn⟩
  obtain ⟨n, rfl⟩ : ∃ n : Nat, b = (n : Int) := ⟨b.toNat, by omega⟩
  by_cases h0 : n = 0
  · subst h0
    refine ⟨1, 0, fun w => ?_, fun w => ?_⟩
    · have := pow_yes a 0 w ha ha' hb' (by rw [Int.pow_zero]; exact ⟨by decide, by decide⟩)
      rw [Int.pow_zero] at this
      exact below_same this
    · show Calls Tryd.prog 34 #[.int .i64 a, .int .i64 0] w _
      by_cases z0 : a = 0
      · subst z0; exact refPow_zz w
      by_cases z1 : a = 1
      · subst z1; exact refPow_oz w
      exact refPow_az a w (by rw [beq_eq_false_iff_ne]; exact z0) (by rw [beq_eq_false_iff_ne]; exact z1)
  by_cases z0 : a = 0
  · subst z0
    refine ⟨0, 0, fun w => ?_, fun w => refPow_zn n w h0⟩
    have := pow_yes 0 n w ha ha' hb' (by rw [Int.zero_pow h0]; exact ⟨by decide, by decide⟩)
    rw [Int.zero_pow h0] at this
    exact below_same this
  by_cases z1 : a = 1
  · subst z1
    refine ⟨1, 0, fun w => ?_, fun w => refPow_on n w h0⟩
    have := pow_yes 1 n w ha ha' hb' (by rw [Int.one_pow]; exact ⟨by decide, by decide⟩)
    rw [Int.one_pow] at this
    exact below_same this
  by_cases zm : a = -1
  · subst zm
    refine ⟨_, 0, fun w => ?_, fun w => refPow_mn n w h0 hb'⟩
    have := pow_yes (-1) n w ha ha' hb' (by rw [pow_neg_one]; exact ⟨by omega, by omega⟩)
    rw [pow_neg_one] at this
    exact below_same this
  by_cases hf : Fit (a ^ n)
  · exact ⟨_, 0, fun w => below_same (pow_yes a n w ha ha' hb' hf), fun w => refPow_grow_yes a n w ha ha' hb' (by omega) hf (by omega)⟩
  · exact ⟨0, 13, fun w => below_same (pow_no a n w ha ha' hb' hf), fun w => refPow_grow_no a n w ha ha' hb' (by omega) hf (by omega)⟩
end Go.Proofs.YtoedgailgejafaaDoor
