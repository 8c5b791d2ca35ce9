/- ShiftOut, where a lies behind. -/
import Derived.Test.YtmgmlpbecodnfaaSoM12
namespace Go.Proofs.Ytmgmlpbecodnfaa
open Go.RowKit Go.Sort
set_option linter.unusedVariables false

set_option maxHeartbeats 4000000 in
set_option maxRecDepth 100000 in
theorem so_b (a b t n : Int) (w : World) (a0 : 0 ≤ a) (a1 : a ≤ 65535) (b0 : 0 ≤ b) (b1 : b ≤ 65535) (t0 : 0 ≤ t) (t1 : t ≤ 65535) (n0 : 1 ≤ n) (n1 : n ≤ 65536) (ha : t + n ≤ a) :
    Calls Try.prog 7 #[.int .i64 a, .int .i64 b, .int .i64 t, .int .i64 n] w fun e w' => e = .returned (.bool true) ∧ Below w.heap.size w w' := by
  have hs : movE (rowR t (-n)) (refT a 0) = .mk (ndR (a - n) 0) [] := (so_single n0 n1 t0 a0 a1).2.1 ha
  have hd : movE (rowR t (-n)) (.mk (ndG a b) []) = .mk (ndG (lnow a b t (-n)) (lnow b a t (-n))) [] := (so_double n0 n1 t0 t1 a0 a1 b0 b1).2 (by omega)
  have m1 : mayB a 0 = true := mayB_iff.2 (by omega)
  have m2 : mayB b 0 = true := mayB_iff.2 (by omega)
  have m3 : mayB t 0 = true := mayB_iff.2 (by omega)
  have e1 : spotR (refT a 0) t 0 = 0 := by unfold spotR; rw [if_pos (may_one a 0 m1), m3]; rfl
  have e2 : spotR (.mk (ndG a b) []) t 0 = 0 := by unfold spotR; rw [if_pos (may_rng a b m1 m2), m3]; rfl
  have H1 := hide (fun w' => rows_any (refT a 0) (exV (ndR a 0) (.slice none 0 0)) t (-n) w' (leaf_tree w' (ndR a 0) (Nat.zero_le _)))
  have H2 := hide (fun w' => rows_any (.mk (ndG a b) []) (.agg #[.int .i64 6, .int .i64 0, .int .i64 0, .string { data := #[] }, .int .i64 a, .int .i64 0, .bool false, .bool false, .int .i64 b, .int .i64 0, .bool false, .bool false, .int .i64 0, .slice none 0 0]) t (-n) w' (leaf_tree w' (ndG a b) (Nat.zero_le _)))
  rw [e1, hs] at H1
  rw [e2, hd] at H2
  clear e1 e2 m1 m2 m3 hs hd
  have B0 := hide (Below.refl w.heap.size w)
  go_enter Try.func7, Try.ntmps7
  go_wp2_with fail
  refine (begun12 _).mono ?_
  rintro e w1 ⟨rfl, hb⟩
  have B1 := hide (next B0.out hb)
  clear hb B0
  go_wp2_with fail
  refine ((ref_any a 0).out _).mono ?_
  rintro e w2 ⟨rfl, hb⟩
  have B2 := hide (next B1.out hb)
  clear hb B1
  go_wp2_with fail
  refine (H1.out w2).mono ?_
  intro e w3 hh
  obtain ⟨a3, l3, c3, rfl, T3, hb⟩ := hh.tree (sm_leaf (Nat.zero_le _))
  have B3 := hide (step (next B2.out hb) (exO (ndR (a - n) 0) (.slice a3 l3 c3)))
  have SX : Hid (Blk (w3.alloc (exO (ndR (a - n) 0) (.slice a3 l3 c3))) w3.heap.size (exC (ndR (a - n) 0) (.slice a3 l3 c3)) 29) := hide (Blk.new w3 _ _)
  have hsn3 := run_putnew w3 (ndR (a - n) 0) a3 l3 c3
  replace T3 := hide (leaf_any2 T3)
  clear hh hb B2 H1
  go_wp2_with fail
  refine (H2.out _).mono ?_
  intro e w4 hh
  obtain ⟨a4, l4, c4, rfl, T4, hb⟩ := hh.tree (sm_leaf (Nat.zero_le _))
  have B4 := hide (step (next B3.out hb) (exO (ndG (lnow a b t (-n)) (lnow b a t (-n))) (.slice a4 l4 c4)))
  have SY : Hid (Blk (w4.alloc (exO (ndG (lnow a b t (-n)) (lnow b a t (-n))) (.slice a4 l4 c4))) w3.heap.size (exC (ndR (a - n) 0) (.slice a3 l3 c3)) 29) := hide ((SX.out.keep hb).alloc _)
  have DY : Hid (Blk (w4.alloc (exO (ndG (lnow a b t (-n)) (lnow b a t (-n))) (.slice a4 l4 c4))) w4.heap.size (exC (ndG (lnow a b t (-n)) (lnow b a t (-n))) (.slice a4 l4 c4)) 29) := hide (Blk.new w4 _ _)
  have hsn4 := run_putnew w4 (ndG (lnow a b t (-n)) (lnow b a t (-n))) a4 l4 c4
  clear hh hb B3 SX hsn3 H2 T4
  go_wp2_with fail
  obtain ⟨w5, hw5⟩ : ∃ w5, w4.alloc (exO (ndG (lnow a b t (-n)) (lnow b a t (-n))) (.slice a4 l4 c4)) = w5 := ⟨_, rfl⟩
  rw [hw5] at B4 SY DY ⊢
  clear hw5 hsn4
  obtain ⟨y0, y1, y2, y3, y4, y5, y6, y7, y8, y9, y10, y11, y12, y13⟩ := SY.out.c14
  dsimp only at y0 y1 y2 y3 y4 y5 y6 y7 y8 y9 y10 y11 y12 y13
  replace y0 := cell_rg y0
  replace y1 := cell_rg y1
  replace y2 := cell_rg y2
  replace y3 := cell_rg y3
  replace y4 := cell_rg y4
  replace y5 := cell_rg y5
  replace y6 := cell_rg y6
  replace y7 := cell_rg y7
  replace y8 := cell_rg y8
  replace y9 := cell_rg y9
  replace y10 := cell_rg y10
  replace y11 := cell_rg y11
  replace y12 := cell_rg y12
  replace y13 := cell_rg y13
  have K1 : Hid (∀ w', Calls Try.prog 13 #[.agg #[.int .i64 5, .int .i64 0, .int .i64 0, .string { data := #[] }, .int .i64 (a - n), .int .i64 0, .bool false, .bool false, .int .i64 0, .int .i64 0, .bool false, .bool false, .int .i64 0, .slice a3 l3 c3], exV (ndR (a - n) 0) (.slice none 0 0)] w' fun e w'' => e = .returned (.bool true) ∧ Below w'.heap.size w' w'') := hide (fun w' => by have := leq_any (refT (a - n) 0) (refT (a - n) 0) _ _ w' (T3.out w') (leaf_tree w' (ndR (a - n) 0) (Nat.zero_le _)); rw [same_selfE] at this; exact this)
  have k0 := fun d' os => Calls.regrown_of ((ref_any (a - n) 0).out (grow (redrawn w5 d') os))
  have k1 := fun d' os => Calls.regrown_of (K1.out (grow (redrawn w5 d') os))
  clear SY T3 K1
  refine wp_region_quiet_below (by kernel_rfl) (by kernel_rfl) ?_
  repeat (go_big_quiet_step (first | (with_reducible exact k0 _ _) | (with_reducible exact k1 _ _)))
  refine wpQuiet_nil ?_
  intro _ hw'
  obtain ⟨⟨dq1, osq1⟩, hw''⟩ := hw'
  subst hw''
  have B6 := hide (next B4.out (below_regrown _ dq1 osq1))
  have D6 := hide (DY.out.keep (below_regrown _ dq1 osq1))
  obtain ⟨w6, hw6⟩ : ∃ w6, grow (redrawn w5 dq1) osq1 = w6 := ⟨_, rfl⟩
  rw [hw6] at B6 D6 ⊢
  clear hw6 y0 y1 y2 y3 y4 y5 y6 y7 y8 y9 y10 y11 y12 y13 k0 k1 B4 DY
  have z0 := so_0 (lo := min a b) (a := t) (e := t + n) (n := n) (by omega)
  replace z0 := hide z0
  go_wp2_with fail
  go_loopw [13, 14, 15, 16] (fun fi la ro r wr => ∃ (k : Int), min a b ≤ k ∧ k ≤ max a b + 1 ∧ fi = .int .i64 (firstF (min a b) t (t + n) n k) ∧ la = .int .i64 (lastF (min a b) t (t + n) n k) ∧ ro = .int .i64 (rowsF (min a b) t (t + n) k) ∧ r = .int .i64 k ∧ wr = w6) (fun _ _ _ r _ => (max a b + 1 - intOf r).toNat)
  case atStart => exact ⟨min a b, Int.le_refl _, by omega, by rw [z0.out.2.1], by rw [z0.out.2.2], by rw [z0.out.1], rfl, rfl⟩
  case round =>
    obtain ⟨k, hk1, hk2, rfl, rfl, rfl, rfl, rfl⟩ := hrel
    have bd := hide (so_bd (lo := min a b) (a := t) (e := t + n) (n := n) (r := k) rfl t0 n0 (by omega) hk1 (by omega) t1)
    have ge := hide (so_ge (lo := min a b) (a := t) (e := t + n) (n := n) (r := k) rfl t0 (by omega))
    by_cases hlt : k ≤ max a b
    · have SA := hide (so_A (lo := min a b) (a := t) (e := t + n) (n := n) (r := k) rfl n0 hk1)
      have SB := hide (so_B (lo := min a b) (a := t) (e := t + n) (n := n) (r := k) rfl n0 hk1)
      have SC := hide (so_C (lo := min a b) (a := t) (e := t + n) (n := n) (r := k) rfl n0 hk1)
      obtain ⟨bd1, bd2, bd3, bd4, bd5⟩ := bd.out
      obtain ⟨ge1, ge2⟩ := ge.out
      have hme := hide (so_meas (A := max a b) hlt)
      by_cases q1 : k < t
      · obtain ⟨u1, u2, u3, u4⟩ := SA.out q1
        by_cases q2 : rowsF (min a b) t (t + n) k ≤ 0
        · replace u3 := hide (u3 q2)
          have q3 : firstF (min a b) t (t + n) n k < 0 := by unfold firstF; rw [if_pos q2]; omega
          replace u1 := hide u1
          replace u2 := hide u2
          clear u4 ge2 SA SB SC
          generalize firstF (min a b) t (t + n) n k = fi at *
          generalize lastF (min a b) t (t + n) n k = la at *
          generalize rowsF (min a b) t (t + n) k = ro at *
          go_wp2_with fail
          all_goals exact so_end ⟨k + 1, by omega, by omega, by rw [u3.out], by rw [u2.out], by rw [u1.out], rfl, by first | rfl | trivial⟩ hme.out
        · replace u4 := hide (u4 (by omega))
          have q3 : ¬ firstF (min a b) t (t + n) n k < 0 := by have := ge2 (by omega); omega
          replace u1 := hide u1
          replace u2 := hide u2
          clear u3 ge2 SA SB SC
          generalize firstF (min a b) t (t + n) n k = fi at *
          generalize lastF (min a b) t (t + n) n k = la at *
          generalize rowsF (min a b) t (t + n) k = ro at *
          go_wp2_with fail
          all_goals exact so_end ⟨k + 1, by omega, by omega, by rw [u4.out], by rw [u2.out], by rw [u1.out], rfl, by first | rfl | trivial⟩ hme.out
      · by_cases q4 : t + n ≤ k
        · obtain ⟨u1, u2, u3, u4⟩ := SB.out q4
          by_cases q2 : rowsF (min a b) t (t + n) k ≤ 0
          · replace u3 := hide (u3 q2)
            have q3 : firstF (min a b) t (t + n) n k < 0 := by unfold firstF; rw [if_pos q2]; omega
            replace u1 := hide u1
            replace u2 := hide u2
            clear u4 ge2 SA SB SC
            generalize firstF (min a b) t (t + n) n k = fi at *
            generalize lastF (min a b) t (t + n) n k = la at *
            generalize rowsF (min a b) t (t + n) k = ro at *
            go_wp2_with fail
            all_goals exact so_end ⟨k + 1, by omega, by omega, by rw [u3.out], by rw [u2.out], by rw [u1.out], rfl, by first | rfl | trivial⟩ hme.out
          · replace u4 := hide (u4 (by omega))
            have q3 : ¬ firstF (min a b) t (t + n) n k < 0 := by have := ge2 (by omega); omega
            replace u1 := hide u1
            replace u2 := hide u2
            clear u3 ge2 SA SB SC
            generalize firstF (min a b) t (t + n) n k = fi at *
            generalize lastF (min a b) t (t + n) n k = la at *
            generalize rowsF (min a b) t (t + n) k = ro at *
            go_wp2_with fail
            all_goals exact so_end ⟨k + 1, by omega, by omega, by rw [u4.out], by rw [u2.out], by rw [u1.out], rfl, by first | rfl | trivial⟩ hme.out
        · obtain ⟨u1, u2, u3⟩ := SC.out (by omega) (by omega)
          replace u1 := hide u1
          replace u2 := hide u2
          replace u3 := hide u3
          clear ge2 SA SB SC
          generalize firstF (min a b) t (t + n) n k = fi at *
          generalize lastF (min a b) t (t + n) n k = la at *
          generalize rowsF (min a b) t (t + n) k = ro at *
          go_wp2_with fail
          all_goals exact so_end ⟨k + 1, by omega, by omega, by rw [u3.out], by rw [u2.out], by rw [u1.out], rfl, by first | rfl | trivial⟩ hme.out
    · obtain rfl : k = max a b + 1 := by omega
      obtain ⟨y0, y1, y2, y3, y4, y5, y6, y7, y8, y9, y10, y11, y12, y13⟩ := D6.out.c14
      dsimp only at y0 y1 y2 y3 y4 y5 y6 y7 y8 y9 y10 y11 y12 y13
      obtain ⟨bd1, bd2, bd3, bd4, bd5⟩ := bd.out
      obtain ⟨ge1, ge2⟩ := ge.out
      by_cases hab : a ≤ b
      · have em : min a b = a := by omega
        have eM : max a b = b := by omega
        obtain ⟨v1, v2, v3, v4⟩ := so_ends (x := a) (y := b) (a := t) (n := n) n0 n1 t0 a0 b0 hab (by omega)
        clear hk1 hk2 hlt ge2 bd ge
        rw [em, eM] at bd1 bd2 bd3 bd4 bd5 ge1 ⊢
        clear em eM
        rw [v1] at y4
        rw [v2] at y8
        clear v1 v2
        generalize firstF a t (t + n) n (b + 1) = fi at *
        generalize lastF a t (t + n) n (b + 1) = la at *
        generalize rowsF a t (t + n) (b + 1) = ro at *
        go_wp2_with fail
        go_ret
        exact ⟨rfl, B6.out⟩
      · have em : min a b = b := by omega
        have eM : max a b = a := by omega
        obtain ⟨v1, v2, v3, v4⟩ := so_ends (x := b) (y := a) (a := t) (n := n) n0 n1 t0 b0 a0 (by omega) (by omega)
        clear hk1 hk2 hlt ge2 bd ge
        rw [em, eM] at bd1 bd2 bd3 bd4 bd5 ge1 ⊢
        clear em eM
        rw [v2] at y4
        rw [v1] at y8
        clear v1 v2
        generalize firstF b t (t + n) n (a + 1) = fi at *
        generalize lastF b t (t + n) n (a + 1) = la at *
        generalize rowsF b t (t + n) (a + 1) = ro at *
        go_wp2_with fail
        go_ret
        exact ⟨rfl, B6.out⟩
end Go.Proofs.Ytmgmlpbecodnfaa
