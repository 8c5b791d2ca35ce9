/- quadrilleref12: on, lost, ref, ends. -/
import Derived.Test.YtnikmbkkhfmbeaaR12a
namespace Go.Proofs.Ytnikmbkkhfmbeaa
open Go.RowKit Go.Sort
set_option linter.unusedVariables false

theorem r2may_any (r c : Int) (w : World) : Calls Try.prog 70 #[spotV r c] w fun e w' => e = .returned (.bool (mayB r c)) ∧ Below w.heap.size w w' := by
  have hno : ¬ (0 ≤ r ∧ r < 65536 ∧ 0 ≤ c ∧ c < 702) → mayB r c = false := fun h => by cases q : mayB r c; rfl; exact absurd (mayB_iff.1 q) h
  by_cases h0 : 0 ≤ r
  · by_cases h1 : r < 65536
    · by_cases h2 : 0 ≤ c
      · by_cases h3 : c < 702
        · rw [mayB_iff.2 ⟨h0, h1, h2, h3⟩]
          clear hno
          go_enter Try.func70, Try.ntmps70
          go_wp2_with fail
          go_ret
          exact ⟨rfl, by go_grown⟩
        · rw [hno (by omega)]
          clear hno
          go_enter Try.func70, Try.ntmps70
          go_wp2_with fail
          go_ret
          exact ⟨rfl, by go_grown⟩
      · rw [hno (by omega)]
        clear hno
        go_enter Try.func70, Try.ntmps70
        go_wp2_with fail
        go_ret
        exact ⟨rfl, by go_grown⟩
    · rw [hno (by omega)]
      clear hno
      go_enter Try.func70, Try.ntmps70
      go_wp2_with fail
      go_ret
      exact ⟨rfl, by go_grown⟩
  · rw [hno (by omega)]
    clear hno
    go_enter Try.func70, Try.ntmps70
    go_wp2_with fail
    go_ret
    exact ⟨rfl, by go_grown⟩
theorem ron_any (r : Rf) (w : World) : Calls Try.prog 61 #[rfV r] w fun e w' => e = .returned (.bool (mayB r.row r.col)) ∧ Below w.heap.size w w' := by
  have HM := hide (r2may_any r.row r.col)
  go_enter Try.func61, Try.ntmps61
  go_wp2_with (first
    | (go_at_call 70; refine (HM.out _).mono ?_; rintro e w1 ⟨rfl, hb⟩; have b1 : Hid (Below w.heap.size w w1) := hide (next (by go_grown) hb); clear hb))
  go_ret
  exact ⟨rfl, b1.out⟩
theorem rlost_any (w : World) : Calls Try.prog 59 #[] w fun e w' => e = .returned (exV lostN (.slice none 0 0)) ∧ Below w.heap.size w w' := by
  go_enter Try.func59, Try.ntmps59
  go_wp2_with fail
  refine bodyPost_ret (v := exV lostN (.slice none 0 0)) (by simp [results, Try.results59, go_sem]; try rfl) rfl ?_
  exact ⟨rfl, by go_grown⟩
def rfM (dr dc : Int) (r : Rf) : Rf := ⟨if r.pr then r.row else movedR r.row dr 65536, if r.pc then r.col else movedR r.col dc 702, r.pr, r.pc⟩
set_option maxHeartbeats 1000000 in
theorem rref_any (k dr dc t n : Int) (r : Rf) (hr : mayB r.row r.col = true) (w : World) : Calls Try.prog 57 #[mvV k dr dc t n, rfV r] w fun e w' => e = .returned (rfV (rfM dr dc r)) ∧ Below w.heap.size w w' := by
  have hr := mayB_iff.1 hr
  have S1 := hide (rmoved_any r.row dr 65536 (by omega) (by omega) (by omega) (by omega))
  have S2 := hide (rmoved_any r.col dc 702 (by omega) (by omega) (by omega) (by omega))
  obtain ⟨row, col, pr, pc⟩ := r
  dsimp only at S1 S2
  clear hr
  cases pr <;> cases pc
  all_goals
    dsimp only [rfM, rfV]
    go_enter Try.func57, Try.ntmps57
    go_wp2_with (first
      | (go_at_call 68; with_reducible refine (S1.out _).mono ?_; rintro e w1 ⟨rfl, rfl⟩)
      | (go_at_call 68; with_reducible refine (S2.out _).mono ?_; rintro e w1 ⟨rfl, rfl⟩))
    refine bodyPost_ret (by simp [results, Try.results57, go_sem]; try rfl) rfl ?_
    exact ⟨rfl, by go_grown⟩
/-- Where two ends go. -/
def endA (t n a b most : Int) : Int := lineR t n (if outR t n a most then nearR t n a b most else a) most
set_option maxHeartbeats 2000000 in
theorem rends_ff (k dr dc t n a b most : Int) (h1 : 0 ≤ t) (h2 : t < most) (a1 : 0 ≤ a) (a2 : a < most) (b1 : 0 ≤ b) (b2 : b < most) (h3 : 1 ≤ most) (h4 : most ≤ 65536) (w : World) (qa : outR t n a most = false) (qb : outR t n b most = false) :
    Calls Try.prog 62 #[mvV k dr dc t n, .int .i64 a, .int .i64 b, .int .i64 most] w fun e w' => e = .returned (.tuple #[.int .i64 (endA t n a b most), .int .i64 (endA t n b a most), .bool true]) ∧ Below w.heap.size w w' := by
  have e1 : endA t n a b most = lineR t n a most := by unfold endA; rw [qa]; rfl
  have e2 : endA t n b a most = lineR t n b most := by unfold endA; rw [qb]; rfl
  rw [e1, e2]
  clear e1 e2
  have M0 := Blk.new w #[.int .i64 k, .int .i64 dr, .int .i64 dc, .int .i64 t, .int .i64 n] 64
  have B0 := hide (step (Below.refl w.heap.size w) (.cells #[.int .i64 k, .int .i64 dr, .int .i64 dc, .int .i64 t, .int .i64 n] 64))
  obtain ⟨wm, hwm⟩ : ∃ wm, w.alloc (.cells #[.int .i64 k, .int .i64 dr, .int .i64 dc, .int .i64 t, .int .i64 n] 64) = wm := ⟨_, rfl⟩
  rw [hwm] at M0 B0
  have m0 := cell_rg (show wm.cell? ⟨w.heap.size, 0, none⟩ = some (.int .i64 k) from M0.at' 0)
  have m1 := cell_rg (show wm.cell? ⟨w.heap.size, 1, none⟩ = some (.int .i64 dr) from M0.at' 1)
  have m2 := cell_rg (show wm.cell? ⟨w.heap.size, 2, none⟩ = some (.int .i64 dc) from M0.at' 2)
  have m3 := cell_rg (show wm.cell? ⟨w.heap.size, 3, none⟩ = some (.int .i64 t) from M0.at' 3)
  have m4 := cell_rg (show wm.cell? ⟨w.heap.size, 4, none⟩ = some (.int .i64 n) from M0.at' 4)
  have kA := fun d' os => Calls.regrown_of (rout_any k dr dc t n a most h1 (by omega) h3 h4 (grow (redrawn wm d') os))
  have kB := fun d' os => Calls.regrown_of (rout_any k dr dc t n b most h1 (by omega) h3 h4 (grow (redrawn wm d') os))
  simp only [qa, qb] at kA kB
  have hgb : Hid (n < 0 → 1 ≤ goneR n most ∧ goneR n most ≤ most) := hide (fun h => gone_bd h h3)
  replace M0 := hide M0
  go_enter Try.func62, Try.ntmps62
  go_wp2_with fail
  refine wp_region_quiet_below (by kernel_rfl) (by kernel_rfl) ?_
  repeat (go_big_quiet_step (first | (with_reducible exact kA _ _) | (with_reducible exact kB _ _)))
  refine wpQuiet_nil ?_
  intro _ hw'
  obtain ⟨⟨dq1, osq1⟩, hw''⟩ := hw'
  subst hw''
  have B1 := hide (next B0.out (below_regrown _ dq1 osq1))
  have M1 := hide (M0.out.keep (below_regrown _ dq1 osq1))
  obtain ⟨w1, hw1⟩ : ∃ w1, grow (redrawn wm dq1) osq1 = w1 := ⟨_, rfl⟩
  rw [hw1] at B1 M1 ⊢
  clear hw1 m0 m1 m2 m3 m4 kA kB hwm
  have p0 : w1.cell? ⟨w.heap.size, 0, none⟩ = some (.int .i64 k) := M1.out.at' 0
  have p1 : w1.cell? ⟨w.heap.size, 1, none⟩ = some (.int .i64 dr) := M1.out.at' 1
  have p2 : w1.cell? ⟨w.heap.size, 2, none⟩ = some (.int .i64 dc) := M1.out.at' 2
  have p3 : w1.cell? ⟨w.heap.size, 3, none⟩ = some (.int .i64 t) := M1.out.at' 3
  have p4 : w1.cell? ⟨w.heap.size, 4, none⟩ = some (.int .i64 n) := M1.out.at' 4
  have KL := hide (fun w' => rline_any k dr dc t n a most h1 (by omega) (by omega) (by omega) (by omega) h3 h4 w')
  have KM := hide (fun w' => rline_any k dr dc t n b most h1 (by omega) (by omega) (by omega) (by omega) h3 h4 w')
  go_wp2_with fail
  have B2 := B1
  replace p0 := cell_rg p0
  replace p1 := cell_rg p1
  replace p2 := cell_rg p2
  replace p3 := cell_rg p3
  replace p4 := cell_rg p4
  have k1 := fun d' os => Calls.regrown_of (KL.out (grow (redrawn w1 d') os))
  have k2 := fun d' os => Calls.regrown_of (KM.out (grow (redrawn w1 d') os))
  refine wp_region_quiet_below (by kernel_rfl) (by kernel_rfl) ?_
  repeat (go_big_quiet_step (first | (with_reducible exact k1 _ _) | (with_reducible exact k2 _ _)))
  refine wpQuiet_nil ?_
  intro _ hw'
  obtain ⟨⟨dq2, osq2⟩, hw''⟩ := hw'
  subst hw''
  go_wp2_with fail
  refine bodyPost_ret (by simp [results, Try.results62, go_sem]; try rfl) rfl ?_
  exact ⟨rfl, next B2.out (below_regrown _ dq2 osq2)⟩
set_option maxHeartbeats 2000000 in
theorem rends_ft (k dr dc t n a b most : Int) (h1 : 0 ≤ t) (h2 : t < most) (a1 : 0 ≤ a) (a2 : a < most) (b1 : 0 ≤ b) (b2 : b < most) (h3 : 1 ≤ most) (h4 : most ≤ 65536) (w : World) (qa : outR t n a most = false) (qb : outR t n b most = true) :
    Calls Try.prog 62 #[mvV k dr dc t n, .int .i64 a, .int .i64 b, .int .i64 most] w fun e w' => e = .returned (.tuple #[.int .i64 (endA t n a b most), .int .i64 (endA t n b a most), .bool true]) ∧ Below w.heap.size w w' := by
  have e1 : endA t n a b most = lineR t n a most := by unfold endA; rw [qa]; rfl
  have e2 : endA t n b a most = lineR t n (nearR t n b a most) most := by unfold endA; rw [qb]; rfl
  rw [e1, e2]
  clear e1 e2
  have M0 := Blk.new w #[.int .i64 k, .int .i64 dr, .int .i64 dc, .int .i64 t, .int .i64 n] 64
  have B0 := hide (step (Below.refl w.heap.size w) (.cells #[.int .i64 k, .int .i64 dr, .int .i64 dc, .int .i64 t, .int .i64 n] 64))
  obtain ⟨wm, hwm⟩ : ∃ wm, w.alloc (.cells #[.int .i64 k, .int .i64 dr, .int .i64 dc, .int .i64 t, .int .i64 n] 64) = wm := ⟨_, rfl⟩
  rw [hwm] at M0 B0
  have m0 := cell_rg (show wm.cell? ⟨w.heap.size, 0, none⟩ = some (.int .i64 k) from M0.at' 0)
  have m1 := cell_rg (show wm.cell? ⟨w.heap.size, 1, none⟩ = some (.int .i64 dr) from M0.at' 1)
  have m2 := cell_rg (show wm.cell? ⟨w.heap.size, 2, none⟩ = some (.int .i64 dc) from M0.at' 2)
  have m3 := cell_rg (show wm.cell? ⟨w.heap.size, 3, none⟩ = some (.int .i64 t) from M0.at' 3)
  have m4 := cell_rg (show wm.cell? ⟨w.heap.size, 4, none⟩ = some (.int .i64 n) from M0.at' 4)
  have kA := fun d' os => Calls.regrown_of (rout_any k dr dc t n a most h1 (by omega) h3 h4 (grow (redrawn wm d') os))
  have kB := fun d' os => Calls.regrown_of (rout_any k dr dc t n b most h1 (by omega) h3 h4 (grow (redrawn wm d') os))
  simp only [qa, qb] at kA kB
  have hgb : Hid (n < 0 → 1 ≤ goneR n most ∧ goneR n most ≤ most) := hide (fun h => gone_bd h h3)
  replace M0 := hide M0
  go_enter Try.func62, Try.ntmps62
  go_wp2_with fail
  refine wp_region_quiet_below (by kernel_rfl) (by kernel_rfl) ?_
  repeat (go_big_quiet_step (first | (with_reducible exact kA _ _) | (with_reducible exact kB _ _)))
  refine wpQuiet_nil ?_
  intro _ hw'
  obtain ⟨⟨dq1, osq1⟩, hw''⟩ := hw'
  subst hw''
  have B1 := hide (next B0.out (below_regrown _ dq1 osq1))
  have M1 := hide (M0.out.keep (below_regrown _ dq1 osq1))
  obtain ⟨w1, hw1⟩ : ∃ w1, grow (redrawn wm dq1) osq1 = w1 := ⟨_, rfl⟩
  rw [hw1] at B1 M1 ⊢
  clear hw1 m0 m1 m2 m3 m4 kA kB hwm
  have p0 : w1.cell? ⟨w.heap.size, 0, none⟩ = some (.int .i64 k) := M1.out.at' 0
  have p1 : w1.cell? ⟨w.heap.size, 1, none⟩ = some (.int .i64 dr) := M1.out.at' 1
  have p2 : w1.cell? ⟨w.heap.size, 2, none⟩ = some (.int .i64 dc) := M1.out.at' 2
  have p3 : w1.cell? ⟨w.heap.size, 3, none⟩ = some (.int .i64 t) := M1.out.at' 3
  have p4 : w1.cell? ⟨w.heap.size, 4, none⟩ = some (.int .i64 n) := M1.out.at' 4
  have HN := hide (rnear_any k dr dc t n b a most h1 h2 (by omega) (out_iff.1 qb).1 qb qa h3 h4 w1)
  have hna := (out_iff.1 qb).1
  have hoa := out_iff.1 qb
  have hx : 0 ≤ nearR t n b a most ∧ nearR t n b a most ≤ 131072 := by have := hgb.out hna; unfold nearR; have hb' : ¬ (n < 0 ∧ t ≤ a ∧ a < t + goneR n most) := (fun h => by rw [out_iff.2 h] at qa; cases qa); split <;> omega
  have KL := hide (fun w' => rline_any k dr dc t n a most h1 (by omega) (by omega) (by omega) (by omega) h3 h4 w')
  have KM := hide (fun w' => rline_any k dr dc t n (nearR t n b a most) most h1 (by omega) (by omega) (by omega) (by omega) h3 h4 w')
  go_wp2_with (first
    | (go_at_call 71; refine HN.out.mono ?_; rintro e w2 ⟨rfl, hb⟩; have B2 := hide (next B1.out hb); have M2 := hide (M1.out.keep hb); clear hb))
  clear p0 p1 p2 p3 p4
  have p0 := cell_rg (show w2.cell? ⟨w.heap.size, 0, none⟩ = some (.int .i64 k) from M2.out.at' 0)
  have p1 := cell_rg (show w2.cell? ⟨w.heap.size, 1, none⟩ = some (.int .i64 dr) from M2.out.at' 1)
  have p2 := cell_rg (show w2.cell? ⟨w.heap.size, 2, none⟩ = some (.int .i64 dc) from M2.out.at' 2)
  have p3 := cell_rg (show w2.cell? ⟨w.heap.size, 3, none⟩ = some (.int .i64 t) from M2.out.at' 3)
  have p4 := cell_rg (show w2.cell? ⟨w.heap.size, 4, none⟩ = some (.int .i64 n) from M2.out.at' 4)
  have k1 := fun d' os => Calls.regrown_of (KL.out (grow (redrawn w2 d') os))
  have k2 := fun d' os => Calls.regrown_of (KM.out (grow (redrawn w2 d') os))
  refine wp_region_quiet_below (by kernel_rfl) (by kernel_rfl) ?_
  repeat (go_big_quiet_step (first | (with_reducible exact k1 _ _) | (with_reducible exact k2 _ _)))
  refine wpQuiet_nil ?_
  intro _ hw'
  obtain ⟨⟨dq2, osq2⟩, hw''⟩ := hw'
  subst hw''
  go_wp2_with fail
  refine bodyPost_ret (by simp [results, Try.results62, go_sem]; try rfl) rfl ?_
  exact ⟨rfl, next B2.out (below_regrown _ dq2 osq2)⟩
set_option maxHeartbeats 2000000 in
theorem rends_tf (k dr dc t n a b most : Int) (h1 : 0 ≤ t) (h2 : t < most) (a1 : 0 ≤ a) (a2 : a < most) (b1 : 0 ≤ b) (b2 : b < most) (h3 : 1 ≤ most) (h4 : most ≤ 65536) (w : World) (qa : outR t n a most = true) (qb : outR t n b most = false) :
    Calls Try.prog 62 #[mvV k dr dc t n, .int .i64 a, .int .i64 b, .int .i64 most] w fun e w' => e = .returned (.tuple #[.int .i64 (endA t n a b most), .int .i64 (endA t n b a most), .bool true]) ∧ Below w.heap.size w w' := by
  have e1 : endA t n a b most = lineR t n (nearR t n a b most) most := by unfold endA; rw [qa]; rfl
  have e2 : endA t n b a most = lineR t n b most := by unfold endA; rw [qb]; rfl
  rw [e1, e2]
  clear e1 e2
  have M0 := Blk.new w #[.int .i64 k, .int .i64 dr, .int .i64 dc, .int .i64 t, .int .i64 n] 64
  have B0 := hide (step (Below.refl w.heap.size w) (.cells #[.int .i64 k, .int .i64 dr, .int .i64 dc, .int .i64 t, .int .i64 n] 64))
  obtain ⟨wm, hwm⟩ : ∃ wm, w.alloc (.cells #[.int .i64 k, .int .i64 dr, .int .i64 dc, .int .i64 t, .int .i64 n] 64) = wm := ⟨_, rfl⟩
  rw [hwm] at M0 B0
  have m0 := cell_rg (show wm.cell? ⟨w.heap.size, 0, none⟩ = some (.int .i64 k) from M0.at' 0)
  have m1 := cell_rg (show wm.cell? ⟨w.heap.size, 1, none⟩ = some (.int .i64 dr) from M0.at' 1)
  have m2 := cell_rg (show wm.cell? ⟨w.heap.size, 2, none⟩ = some (.int .i64 dc) from M0.at' 2)
  have m3 := cell_rg (show wm.cell? ⟨w.heap.size, 3, none⟩ = some (.int .i64 t) from M0.at' 3)
  have m4 := cell_rg (show wm.cell? ⟨w.heap.size, 4, none⟩ = some (.int .i64 n) from M0.at' 4)
  have kA := fun d' os => Calls.regrown_of (rout_any k dr dc t n a most h1 (by omega) h3 h4 (grow (redrawn wm d') os))
  have kB := fun d' os => Calls.regrown_of (rout_any k dr dc t n b most h1 (by omega) h3 h4 (grow (redrawn wm d') os))
  simp only [qa, qb] at kA kB
  have hgb : Hid (n < 0 → 1 ≤ goneR n most ∧ goneR n most ≤ most) := hide (fun h => gone_bd h h3)
  replace M0 := hide M0
  go_enter Try.func62, Try.ntmps62
  go_wp2_with fail
  refine wp_region_quiet_below (by kernel_rfl) (by kernel_rfl) ?_
  repeat (go_big_quiet_step (first | (with_reducible exact kA _ _) | (with_reducible exact kB _ _)))
  refine wpQuiet_nil ?_
  intro _ hw'
  obtain ⟨⟨dq1, osq1⟩, hw''⟩ := hw'
  subst hw''
  have B1 := hide (next B0.out (below_regrown _ dq1 osq1))
  have M1 := hide (M0.out.keep (below_regrown _ dq1 osq1))
  obtain ⟨w1, hw1⟩ : ∃ w1, grow (redrawn wm dq1) osq1 = w1 := ⟨_, rfl⟩
  rw [hw1] at B1 M1 ⊢
  clear hw1 m0 m1 m2 m3 m4 kA kB hwm
  have p0 : w1.cell? ⟨w.heap.size, 0, none⟩ = some (.int .i64 k) := M1.out.at' 0
  have p1 : w1.cell? ⟨w.heap.size, 1, none⟩ = some (.int .i64 dr) := M1.out.at' 1
  have p2 : w1.cell? ⟨w.heap.size, 2, none⟩ = some (.int .i64 dc) := M1.out.at' 2
  have p3 : w1.cell? ⟨w.heap.size, 3, none⟩ = some (.int .i64 t) := M1.out.at' 3
  have p4 : w1.cell? ⟨w.heap.size, 4, none⟩ = some (.int .i64 n) := M1.out.at' 4
  have HN := hide (rnear_any k dr dc t n a b most h1 h2 (by omega) (out_iff.1 qa).1 qa qb h3 h4 w1)
  have hna := (out_iff.1 qa).1
  have hoa := out_iff.1 qa
  have hx : 0 ≤ nearR t n a b most ∧ nearR t n a b most ≤ 131072 := by have := hgb.out hna; unfold nearR; have hb' : ¬ (n < 0 ∧ t ≤ b ∧ b < t + goneR n most) := (fun h => by rw [out_iff.2 h] at qb; cases qb); split <;> omega
  have KL := hide (fun w' => rline_any k dr dc t n (nearR t n a b most) most h1 (by omega) (by omega) (by omega) (by omega) h3 h4 w')
  have KM := hide (fun w' => rline_any k dr dc t n b most h1 (by omega) (by omega) (by omega) (by omega) h3 h4 w')
  go_wp2_with (first
    | (go_at_call 71; refine HN.out.mono ?_; rintro e w2 ⟨rfl, hb⟩; have B2 := hide (next B1.out hb); have M2 := hide (M1.out.keep hb); clear hb))
  clear p0 p1 p2 p3 p4
  have p0 := cell_rg (show w2.cell? ⟨w.heap.size, 0, none⟩ = some (.int .i64 k) from M2.out.at' 0)
  have p1 := cell_rg (show w2.cell? ⟨w.heap.size, 1, none⟩ = some (.int .i64 dr) from M2.out.at' 1)
  have p2 := cell_rg (show w2.cell? ⟨w.heap.size, 2, none⟩ = some (.int .i64 dc) from M2.out.at' 2)
  have p3 := cell_rg (show w2.cell? ⟨w.heap.size, 3, none⟩ = some (.int .i64 t) from M2.out.at' 3)
  have p4 := cell_rg (show w2.cell? ⟨w.heap.size, 4, none⟩ = some (.int .i64 n) from M2.out.at' 4)
  have k1 := fun d' os => Calls.regrown_of (KL.out (grow (redrawn w2 d') os))
  have k2 := fun d' os => Calls.regrown_of (KM.out (grow (redrawn w2 d') os))
  refine wp_region_quiet_below (by kernel_rfl) (by kernel_rfl) ?_
  repeat (go_big_quiet_step (first | (with_reducible exact k1 _ _) | (with_reducible exact k2 _ _)))
  refine wpQuiet_nil ?_
  intro _ hw'
  obtain ⟨⟨dq2, osq2⟩, hw''⟩ := hw'
  subst hw''
  go_wp2_with fail
  refine bodyPost_ret (by simp [results, Try.results62, go_sem]; try rfl) rfl ?_
  exact ⟨rfl, next B2.out (below_regrown _ dq2 osq2)⟩
set_option maxHeartbeats 2000000 in
theorem rends_tt (k dr dc t n a b most : Int) (h1 : 0 ≤ t) (h2 : t < most) (a1 : 0 ≤ a) (a2 : a < most) (b1 : 0 ≤ b) (b2 : b < most) (h3 : 1 ≤ most) (h4 : most ≤ 65536) (w : World) (qa : outR t n a most = true) (qb : outR t n b most = true) :
    Calls Try.prog 62 #[mvV k dr dc t n, .int .i64 a, .int .i64 b, .int .i64 most] w fun e w' => e = .returned (.tuple #[.int .i64 0, .int .i64 0, .bool false]) ∧ Below w.heap.size w w' := by
  have M0 := Blk.new w #[.int .i64 k, .int .i64 dr, .int .i64 dc, .int .i64 t, .int .i64 n] 64
  have B0 := hide (step (Below.refl w.heap.size w) (.cells #[.int .i64 k, .int .i64 dr, .int .i64 dc, .int .i64 t, .int .i64 n] 64))
  obtain ⟨wm, hwm⟩ : ∃ wm, w.alloc (.cells #[.int .i64 k, .int .i64 dr, .int .i64 dc, .int .i64 t, .int .i64 n] 64) = wm := ⟨_, rfl⟩
  rw [hwm] at M0 B0
  have m0 := cell_rg (show wm.cell? ⟨w.heap.size, 0, none⟩ = some (.int .i64 k) from M0.at' 0)
  have m1 := cell_rg (show wm.cell? ⟨w.heap.size, 1, none⟩ = some (.int .i64 dr) from M0.at' 1)
  have m2 := cell_rg (show wm.cell? ⟨w.heap.size, 2, none⟩ = some (.int .i64 dc) from M0.at' 2)
  have m3 := cell_rg (show wm.cell? ⟨w.heap.size, 3, none⟩ = some (.int .i64 t) from M0.at' 3)
  have m4 := cell_rg (show wm.cell? ⟨w.heap.size, 4, none⟩ = some (.int .i64 n) from M0.at' 4)
  have kA := fun d' os => Calls.regrown_of (rout_any k dr dc t n a most h1 (by omega) h3 h4 (grow (redrawn wm d') os))
  have kB := fun d' os => Calls.regrown_of (rout_any k dr dc t n b most h1 (by omega) h3 h4 (grow (redrawn wm d') os))
  simp only [qa, qb] at kA kB
  have hgb : Hid (n < 0 → 1 ≤ goneR n most ∧ goneR n most ≤ most) := hide (fun h => gone_bd h h3)
  replace M0 := hide M0
  go_enter Try.func62, Try.ntmps62
  go_wp2_with fail
  refine wp_region_quiet_below (by kernel_rfl) (by kernel_rfl) ?_
  repeat (go_big_quiet_step (first | (with_reducible exact kA _ _) | (with_reducible exact kB _ _)))
  refine wpQuiet_nil ?_
  intro _ hw'
  obtain ⟨⟨dq1, osq1⟩, hw''⟩ := hw'
  subst hw''
  have B1 := hide (next B0.out (below_regrown _ dq1 osq1))
  have M1 := hide (M0.out.keep (below_regrown _ dq1 osq1))
  obtain ⟨w1, hw1⟩ : ∃ w1, grow (redrawn wm dq1) osq1 = w1 := ⟨_, rfl⟩
  rw [hw1] at B1 M1 ⊢
  clear hw1 m0 m1 m2 m3 m4 kA kB hwm
  have p0 : w1.cell? ⟨w.heap.size, 0, none⟩ = some (.int .i64 k) := M1.out.at' 0
  have p1 : w1.cell? ⟨w.heap.size, 1, none⟩ = some (.int .i64 dr) := M1.out.at' 1
  have p2 : w1.cell? ⟨w.heap.size, 2, none⟩ = some (.int .i64 dc) := M1.out.at' 2
  have p3 : w1.cell? ⟨w.heap.size, 3, none⟩ = some (.int .i64 t) := M1.out.at' 3
  have p4 : w1.cell? ⟨w.heap.size, 4, none⟩ = some (.int .i64 n) := M1.out.at' 4
  go_wp2_with fail
  refine bodyPost_ret (by simp [results, Try.results62, go_sem]; try rfl) rfl ?_
  exact ⟨rfl, B1.out⟩
end Go.Proofs.Ytnikmbkkhfmbeaa
