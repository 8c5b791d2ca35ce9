/- quadrilleref12: numbers on a line: moved, gone, out, line, near; on, lost. quadrilleref12: on, lost, ref, ends. quadrilleref12.Move.single: an XRef, or what takes its place. quadrilleref12.Move.double: an XRange, or what takes its place. The document's numbers on a line, and the program's; nodes; no Go in sight but the contracts. -/
import Derived.Test.YtiajoppbgebnpaaMn12
namespace Go.Proofs.Ytiajoppbgebnpaa
open Go.RowKit Go.Sort
set_option linter.unusedVariables false

abbrev mvV (k dr dc t n : Int) : Value := .agg #[.int .i64 k, .int .i64 dr, .int .i64 dc, .int .i64 t, .int .i64 n]
def movedR (a d most : Int) : Int := if most ≤ d then -1 else if d ≤ -most then -1 else if a + d < 0 then -1 else if most ≤ a + d then -1 else a + d
def goneR (n most : Int) : Int := if n ≤ -most then most else -n
def outR (t n a most : Int) : Bool := decide (n < 0) && decide (t ≤ a) && decide (a < t + goneR n most)
def lineR (t n a most : Int) : Int := if a < t then a else if n < 0 then a - goneR n most else movedR a n most
set_option maxHeartbeats 1000000 in
theorem rmoved_any (a d most : Int) (h1 : 0 ≤ a) (h2 : a ≤ 65536) (h3 : 1 ≤ most) (h4 : most ≤ 65536) (w : World) : Calls Try.prog 67 #[.int .i64 a, .int .i64 d, .int .i64 most] w fun e w' => e = .returned (.int .i64 (movedR a d most)) ∧ w' = w := by
  have wn := IntWalk.wrap64_in (-most) ⟨by omega, by omega⟩
  unfold movedR
  by_cases c1 : most ≤ d
  · rw [if_pos c1]
    go_enter Try.func67, Try.ntmps67
    go_wp2_with fail
    go_ret
    exact ⟨rfl, rfl⟩
  rw [if_neg c1]
  by_cases c2 : d ≤ -most
  · rw [if_pos c2]
    go_enter Try.func67, Try.ntmps67
    go_wp2_with fail
    go_ret
    exact ⟨rfl, rfl⟩
  rw [if_neg c2]
  have ws := IntWalk.wrap64_in (a + d) ⟨by omega, by omega⟩
  by_cases c3 : a + d < 0
  · rw [if_pos c3]
    go_enter Try.func67, Try.ntmps67
    go_wp2_with fail
    go_ret
    exact ⟨rfl, rfl⟩
  rw [if_neg c3]
  by_cases c4 : most ≤ a + d
  · rw [if_pos c4]
    go_enter Try.func67, Try.ntmps67
    go_wp2_with fail
    go_ret
    exact ⟨rfl, rfl⟩
  rw [if_neg c4]
  go_enter Try.func67, Try.ntmps67
  go_wp2_with fail
  go_ret
  exact ⟨rfl, rfl⟩
set_option maxHeartbeats 1000000 in
theorem rgone_any (k dr dc t n most : Int) (hn : n < 0) (h3 : 1 ≤ most) (h4 : most ≤ 65536) (w : World) : Calls Try.prog 68 #[mvV k dr dc t n, .int .i64 most] w fun e w' => e = .returned (.int .i64 (goneR n most)) ∧ Below w.heap.size w w' := by
  have wn := IntWalk.wrap64_in (-most) ⟨by omega, by omega⟩
  unfold goneR
  by_cases c1 : n ≤ -most
  · rw [if_pos c1]
    go_enter Try.func68, Try.ntmps68
    go_wp2_with fail
    go_ret
    exact ⟨rfl, by go_grown⟩
  rw [if_neg c1]
  have wm := IntWalk.wrap64_in (-n) ⟨by omega, by omega⟩
  go_enter Try.func68, Try.ntmps68
  go_wp2_with fail
  go_ret
  exact ⟨rfl, by go_grown⟩
theorem gone_bd {n most : Int} (hn : n < 0) (h3 : 1 ≤ most) : 1 ≤ goneR n most ∧ goneR n most ≤ most := by
  unfold goneR; split <;> omega
set_option maxHeartbeats 1000000 in
theorem rout_any (k dr dc t n a most : Int) (h1 : 0 ≤ t) (h2 : t ≤ 65536) (h3 : 1 ≤ most) (h4 : most ≤ 65536) (w : World) : Calls Try.prog 57 #[mvV k dr dc t n, .int .i64 a, .int .i64 most] w fun e w' => e = .returned (.bool (outR t n a most)) ∧ Below w.heap.size w w' := by
  have M0 := Blk.new w #[.int .i64 k, .int .i64 dr, .int .i64 dc, .int .i64 t, .int .i64 n] 64
  have B0 := hide (step (Below.refl w.heap.size w) (.cells #[.int .i64 k, .int .i64 dr, .int .i64 dc, .int .i64 t, .int .i64 n] 64))
  obtain ⟨wm, hwm⟩ : ∃ wm, w.alloc (.cells #[.int .i64 k, .int .i64 dr, .int .i64 dc, .int .i64 t, .int .i64 n] 64) = wm := ⟨_, rfl⟩
  rw [hwm] at M0 B0
  have m0 := M0.at' 0
  have m1 := M0.at' 1
  have m2 := M0.at' 2
  have m3 := M0.at' 3
  have m4 := M0.at' 4
  simp at m0 m1 m2 m3 m4
  replace m0 := cell_rg m0
  replace m1 := cell_rg m1
  replace m2 := cell_rg m2
  replace m3 := cell_rg m3
  replace m4 := cell_rg m4
  unfold outR
  by_cases c1 : n < 0
  · have hg := gone_bd (most := most) c1 h3
    have k1 := fun d' os => Calls.regrown_of (rgone_any k dr dc t n most c1 h3 h4 (grow (redrawn wm d') os))
    rw [decide_eq_true c1]
    generalize goneR n most = G at *
    by_cases c2 : t ≤ a
    · rw [decide_eq_true c2]
      have ws := IntWalk.wrap64_in (t + G) ⟨by omega, by omega⟩
      go_enter Try.func57, Try.ntmps57
      go_wp2_with fail
      refine wp_region_quiet_below (by kernel_rfl) (by kernel_rfl) ?_
      repeat (go_big_quiet_step (with_reducible exact k1 _ _))
      refine wpQuiet_nil ?_
      intro _ hw'
      obtain ⟨⟨dq1, osq1⟩, hw''⟩ := hw'
      subst hw''
      go_wp2_with fail
      go_ret
      exact ⟨rfl, next B0.out (below_regrown _ dq1 osq1)⟩
    · rw [decide_eq_false c2]
      have d2 : decide (t ≤ a) = false := decide_eq_false c2
      go_enter Try.func57, Try.ntmps57
      go_wp2_with fail
      refine wp_region_quiet_below (by kernel_rfl) (by kernel_rfl) ?_
      repeat (go_big_quiet_step (with_reducible exact k1 _ _))
      refine wpQuiet_nil ?_
      intro _ hw'
      obtain ⟨⟨dq1, osq1⟩, hw''⟩ := hw'
      subst hw''
      go_wp2_with fail
      go_ret
      exact ⟨rfl, next B0.out (below_regrown _ dq1 osq1)⟩
  · rw [decide_eq_false c1]
    have d1 : decide (n < 0) = false := decide_eq_false c1
    go_enter Try.func57, Try.ntmps57
    go_wp2_with fail
    refine wp_region_quiet_below (by kernel_rfl) (by kernel_rfl) ?_
    repeat (go_big_quiet_step (fail))
    refine wpQuiet_nil ?_
    intro _ hw'
    obtain ⟨⟨dq1, osq1⟩, hw''⟩ := hw'
    subst hw''
    go_wp2_with fail
    go_ret
    exact ⟨rfl, next B0.out (below_regrown _ dq1 osq1)⟩
set_option maxHeartbeats 1000000 in
theorem rline_any (k dr dc t n a most : Int) (h1 : 0 ≤ t) (h2 : t ≤ 65536) (a1 : 0 ≤ a) (a2 : a ≤ 131072) (a3 : 0 ≤ n → a ≤ 65536) (h3 : 1 ≤ most) (h4 : most ≤ 65536) (w : World) : Calls Try.prog 59 #[mvV k dr dc t n, .int .i64 a, .int .i64 most] w fun e w' => e = .returned (.int .i64 (lineR t n a most)) ∧ Below w.heap.size w w' := by
  have M0 := Blk.new w #[.int .i64 k, .int .i64 dr, .int .i64 dc, .int .i64 t, .int .i64 n] 64
  have B0 := hide (step (Below.refl w.heap.size w) (.cells #[.int .i64 k, .int .i64 dr, .int .i64 dc, .int .i64 t, .int .i64 n] 64))
  obtain ⟨wm, hwm⟩ : ∃ wm, w.alloc (.cells #[.int .i64 k, .int .i64 dr, .int .i64 dc, .int .i64 t, .int .i64 n] 64) = wm := ⟨_, rfl⟩
  rw [hwm] at M0 B0
  have m0 := M0.at' 0
  have m1 := M0.at' 1
  have m2 := M0.at' 2
  have m3 := M0.at' 3
  have m4 := M0.at' 4
  simp at m0 m1 m2 m3 m4
  unfold lineR
  by_cases c0 : a < t
  · rw [if_pos c0]
    go_enter Try.func59, Try.ntmps59
    go_wp2_with fail
    go_ret
    exact ⟨rfl, B0.out⟩
  rw [if_neg c0]
  by_cases c1 : n < 0
  · rw [if_pos c1]
    have hg := gone_bd (most := most) c1 h3
    have HG := hide (rgone_any k dr dc t n most c1 h3 h4 wm)
    generalize goneR n most = G at *
    have ws := IntWalk.wrap64_in (a - G) ⟨by omega, by omega⟩
    go_enter Try.func59, Try.ntmps59
    go_wp2_with (go_at_call 68; refine HG.out.mono ?_; rintro e w1 ⟨rfl, hb⟩; have b1 := hide (next B0.out hb); clear hb)
    go_ret
    exact ⟨rfl, b1.out⟩
  · rw [if_neg c1]
    have HG := hide (rmoved_any a n most a1 (a3 (by omega)) h3 h4 wm)
    generalize movedR a n most = G at *
    go_enter Try.func59, Try.ntmps59
    go_wp2_with (go_at_call 67; refine HG.out.mono ?_; rintro e w1 ⟨rfl, rfl⟩; have b1 := B0)
    go_ret
    exact ⟨rfl, b1.out⟩
def nearR (t n a b most : Int) : Int := if a < b then t + goneR n most else t - 1
theorem out_iff {t n a most : Int} : outR t n a most = true ↔ n < 0 ∧ t ≤ a ∧ a < t + goneR n most := by
  unfold outR; rw [Bool.and_eq_true, Bool.and_eq_true, decide_eq_true_iff, decide_eq_true_iff, decide_eq_true_iff]; exact and_assoc
theorem near_up {A x : Int} (h : x < A) : (A - intOf (.int .i64 (x + 1))).toNat < (A - intOf (.int .i64 x)).toNat := by
  show (A - (x + 1)).toNat < (A - x).toNat
  omega
theorem near_dn {A x : Int} (h : A ≤ x) : (intOf (.int .i64 (x - 1)) + 1 - A).toNat < (intOf (.int .i64 x) + 1 - A).toNat := by
  show (x - 1 + 1 - A).toNat < (x + 1 - A).toNat
  omega
set_option maxHeartbeats 1000000 in
theorem rnear_any (k dr dc t n a b most : Int) (h1 : 0 ≤ t) (h2 : t < most) (b1 : b ≤ 131072) (hn : n < 0) (ho : outR t n a most = true) (hb : outR t n b most = false) (h3 : 1 ≤ most) (h4 : most ≤ 65536) (w : World) : Calls Try.prog 70 #[mvV k dr dc t n, .int .i64 a, .int .i64 b, .int .i64 most] w fun e w' => e = .returned (.int .i64 (nearR t n a b most)) ∧ Below w.heap.size w w' := by
  have M0 := Blk.new w #[.int .i64 k, .int .i64 dr, .int .i64 dc, .int .i64 t, .int .i64 n] 64
  have B0 := hide (step (Below.refl w.heap.size w) (.cells #[.int .i64 k, .int .i64 dr, .int .i64 dc, .int .i64 t, .int .i64 n] 64))
  obtain ⟨wm, hwm⟩ : ∃ wm, w.alloc (.cells #[.int .i64 k, .int .i64 dr, .int .i64 dc, .int .i64 t, .int .i64 n] 64) = wm := ⟨_, rfl⟩
  rw [hwm] at M0 B0
  have m0 := M0.at' 0
  have m1 := M0.at' 1
  have m2 := M0.at' 2
  have m3 := M0.at' 3
  have m4 := M0.at' 4
  simp at m0 m1 m2 m3 m4
  have hg := gone_bd (most := most) hn h3
  have ho' := out_iff.1 ho
  have hb' : ¬ (n < 0 ∧ t ≤ b ∧ b < t + goneR n most) := fun h => by rw [out_iff.2 h] at hb; cases hb
  have HO := hide (fun x w' => rout_any k dr dc t n x most h1 (by omega) h3 h4 w')
  have hoT := hide (fun x => (out_iff (t := t) (n := n) (a := x) (most := most)).2)
  have hoF : Hid (∀ x, ¬ (n < 0 ∧ t ≤ x ∧ x < t + goneR n most) → outR t n x most = false) := hide (fun x h => by cases q : outR t n x most; rfl; exact absurd (out_iff.1 q) h)
  have MB := hide M0
  unfold nearR
  by_cases c : a < b
  · rw [if_pos c]
    have hbig : t + goneR n most ≤ b := by omega
    generalize goneR n most = G at *
    obtain ⟨-, ha1, ha2⟩ := ho'
    clear ho hb hb' m0 m1 m2 m3 m4
    go_enter Try.func70, Try.ntmps70
    go_wp2_with fail
    go_loopw [1] (fun x wr => ∃ (y : Int), t ≤ y ∧ y ≤ t + G ∧ x = .int .i64 y ∧ Hid (Below wm.heap.size wm wr)) (fun x _ => (t + G - intOf x).toNat)
    case atStart => exact ⟨a, by omega, by omega, rfl, Below.refl _ _⟩
    case round =>
      obtain ⟨y, y1, y2, rfl, HB⟩ := hrel
      have m0 := (MB.out.keep HB.out).at' 0
      have m1 := (MB.out.keep HB.out).at' 1
      have m2 := (MB.out.keep HB.out).at' 2
      have m3 := (MB.out.keep HB.out).at' 3
      have m4 := (MB.out.keep HB.out).at' 4
      simp at m0 m1 m2 m3 m4
      have HO1 := HO.out y wr
      by_cases q : y < t + G
      · rw [hoT.out y ⟨hn, y1, q⟩] at HO1
        replace HO1 := hide HO1
        have c2 : y < b := by omega
        have me := hide (near_up q)
        go_wp2_with (go_at_call 57; refine HO1.out.mono ?_; rintro e w1 ⟨rfl, hb⟩; have b1 := hide (next HB.out hb); clear hb)
        exact ⟨⟨y + 1, by omega, by omega, rfl, b1⟩, me.out⟩
      · obtain rfl : y = t + G := by omega
        rw [hoF.out (t + G) (by omega)] at HO1
        replace HO1 := hide HO1
        go_wp2_with (go_at_call 57; refine HO1.out.mono ?_; rintro e w1 ⟨rfl, hb⟩; have b1 := hide (next HB.out hb); clear hb)
        go_ret
        exact ⟨rfl, next B0.out b1.out⟩
  · rw [if_neg c]
    have hbig : b < t := by omega
    generalize goneR n most = G at *
    obtain ⟨-, ha1, ha2⟩ := ho'
    clear ho hb hb' m0 m1 m2 m3 m4
    go_enter Try.func70, Try.ntmps70
    go_wp2_with fail
    go_loopw [1] (fun x wr => ∃ (y : Int), t - 1 ≤ y ∧ y < t + G ∧ x = .int .i64 y ∧ Hid (Below wm.heap.size wm wr)) (fun x _ => (intOf x + 1 - t).toNat)
    case atStart => exact ⟨a, by omega, by omega, rfl, Below.refl _ _⟩
    case round =>
      obtain ⟨y, y1, y2, rfl, HB⟩ := hrel
      have m0 := (MB.out.keep HB.out).at' 0
      have m1 := (MB.out.keep HB.out).at' 1
      have m2 := (MB.out.keep HB.out).at' 2
      have m3 := (MB.out.keep HB.out).at' 3
      have m4 := (MB.out.keep HB.out).at' 4
      simp at m0 m1 m2 m3 m4
      have HO1 := HO.out y wr
      by_cases q : t ≤ y
      · rw [hoT.out y ⟨hn, q, y2⟩] at HO1
        replace HO1 := hide HO1
        have c2 : ¬ y < b := by omega
        have me := hide (near_dn q)
        go_wp2_with (go_at_call 57; refine HO1.out.mono ?_; rintro e w1 ⟨rfl, hb⟩; have b1 := hide (next HB.out hb); clear hb)
        exact ⟨⟨y - 1, by omega, by omega, rfl, b1⟩, me.out⟩
      · obtain rfl : y = t - 1 := by omega
        rw [hoF.out (t - 1) (by omega)] at HO1
        replace HO1 := hide HO1
        go_wp2_with (go_at_call 57; refine HO1.out.mono ?_; rintro e w1 ⟨rfl, hb⟩; have b1 := hide (next HB.out hb); clear hb)
        go_ret
        exact ⟨rfl, next B0.out b1.out⟩
end Go.Proofs.Ytiajoppbgebnpaa
namespace Go.Proofs.Ytiajoppbgebnpaa
open Go.RowKit Go.Sort
set_option linter.unusedVariables false

theorem r2may_any (r c : Int) (w : World) : Calls Try.prog 69 #[spotV r c] w fun e w' => e = .returned (.bool (mayB r c)) ∧ Below w.heap.size w w' := by
  have hno : ¬ (0 ≤ r ∧ r < 65536 ∧ 0 ≤ c ∧ c < 702) → mayB r c = false := fun h => by cases q : mayB r c; rfl; exact absurd (mayB_iff.1 q) h
  by_cases h0 : 0 ≤ r
  · by_cases h1 : r < 65536
    · by_cases h2 : 0 ≤ c
      · by_cases h3 : c < 702
        · rw [mayB_iff.2 ⟨h0, h1, h2, h3⟩]
          clear hno
          go_enter Try.func69, Try.ntmps69
          go_wp2_with fail
          go_ret
          exact ⟨rfl, by go_grown⟩
        · rw [hno (by omega)]
          clear hno
          go_enter Try.func69, Try.ntmps69
          go_wp2_with fail
          go_ret
          exact ⟨rfl, by go_grown⟩
      · rw [hno (by omega)]
        clear hno
        go_enter Try.func69, Try.ntmps69
        go_wp2_with fail
        go_ret
        exact ⟨rfl, by go_grown⟩
    · rw [hno (by omega)]
      clear hno
      go_enter Try.func69, Try.ntmps69
      go_wp2_with fail
      go_ret
      exact ⟨rfl, by go_grown⟩
  · rw [hno (by omega)]
    clear hno
    go_enter Try.func69, Try.ntmps69
    go_wp2_with fail
    go_ret
    exact ⟨rfl, by go_grown⟩
theorem ron_any (r : Rf) (w : World) : Calls Try.prog 60 #[rfV r] w fun e w' => e = .returned (.bool (mayB r.row r.col)) ∧ Below w.heap.size w w' := by
  have HM := hide (r2may_any r.row r.col)
  go_enter Try.func60, Try.ntmps60
  go_wp2_with (first
    | (go_at_call 69; refine (HM.out _).mono ?_; rintro e w1 ⟨rfl, hb⟩; have b1 : Hid (Below w.heap.size w w1) := hide (next (by go_grown) hb); clear hb))
  go_ret
  exact ⟨rfl, b1.out⟩
theorem rlost_any (w : World) : Calls Try.prog 58 #[] w fun e w' => e = .returned (exV lostN (.slice none 0 0)) ∧ Below w.heap.size w w' := by
  go_enter Try.func58, Try.ntmps58
  go_wp2_with fail
  refine bodyPost_ret (v := exV lostN (.slice none 0 0)) (by simp [results, Try.results58, go_sem]; try rfl) rfl ?_
  exact ⟨rfl, by go_grown⟩
def rfM (dr dc : Int) (r : Rf) : Rf := ⟨if r.pr then r.row else movedR r.row dr 65536, if r.pc then r.col else movedR r.col dc 702, r.pr, r.pc⟩
set_option maxHeartbeats 1000000 in
theorem rref_any (k dr dc t n : Int) (r : Rf) (hr : mayB r.row r.col = true) (w : World) : Calls Try.prog 56 #[mvV k dr dc t n, rfV r] w fun e w' => e = .returned (rfV (rfM dr dc r)) ∧ Below w.heap.size w w' := by
  have hr := mayB_iff.1 hr
  have S1 := hide (rmoved_any r.row dr 65536 (by omega) (by omega) (by omega) (by omega))
  have S2 := hide (rmoved_any r.col dc 702 (by omega) (by omega) (by omega) (by omega))
  obtain ⟨row, col, pr, pc⟩ := r
  dsimp only at S1 S2
  clear hr
  cases pr <;> cases pc
  all_goals
    dsimp only [rfM, rfV]
    go_enter Try.func56, Try.ntmps56
    go_wp2_with (first
      | (go_at_call 67; with_reducible refine (S1.out _).mono ?_; rintro e w1 ⟨rfl, rfl⟩)
      | (go_at_call 67; with_reducible refine (S2.out _).mono ?_; rintro e w1 ⟨rfl, rfl⟩))
    refine bodyPost_ret (by simp [results, Try.results56, go_sem]; try rfl) rfl ?_
    exact ⟨rfl, by go_grown⟩
/-- Where two ends go. -/
def endA (t n a b most : Int) : Int := lineR t n (if outR t n a most then nearR t n a b most else a) most
set_option maxHeartbeats 2000000 in
theorem rends_ff (k dr dc t n a b most : Int) (h1 : 0 ≤ t) (h2 : t < most) (a1 : 0 ≤ a) (a2 : a < most) (b1 : 0 ≤ b) (b2 : b < most) (h3 : 1 ≤ most) (h4 : most ≤ 65536) (w : World) (qa : outR t n a most = false) (qb : outR t n b most = false) :
    Calls Try.prog 61 #[mvV k dr dc t n, .int .i64 a, .int .i64 b, .int .i64 most] w fun e w' => e = .returned (.tuple #[.int .i64 (endA t n a b most), .int .i64 (endA t n b a most), .bool true]) ∧ Below w.heap.size w w' := by
  have e1 : endA t n a b most = lineR t n a most := by unfold endA; rw [qa]; rfl
  have e2 : endA t n b a most = lineR t n b most := by unfold endA; rw [qb]; rfl
  rw [e1, e2]
  clear e1 e2
  have M0 := Blk.new w #[.int .i64 k, .int .i64 dr, .int .i64 dc, .int .i64 t, .int .i64 n] 64
  have B0 := hide (step (Below.refl w.heap.size w) (.cells #[.int .i64 k, .int .i64 dr, .int .i64 dc, .int .i64 t, .int .i64 n] 64))
  obtain ⟨wm, hwm⟩ : ∃ wm, w.alloc (.cells #[.int .i64 k, .int .i64 dr, .int .i64 dc, .int .i64 t, .int .i64 n] 64) = wm := ⟨_, rfl⟩
  rw [hwm] at M0 B0
  have m0 := cell_rg (show wm.cell? ⟨w.heap.size, 0, none⟩ = some (.int .i64 k) from M0.at' 0)
  have m1 := cell_rg (show wm.cell? ⟨w.heap.size, 1, none⟩ = some (.int .i64 dr) from M0.at' 1)
  have m2 := cell_rg (show wm.cell? ⟨w.heap.size, 2, none⟩ = some (.int .i64 dc) from M0.at' 2)
  have m3 := cell_rg (show wm.cell? ⟨w.heap.size, 3, none⟩ = some (.int .i64 t) from M0.at' 3)
  have m4 := cell_rg (show wm.cell? ⟨w.heap.size, 4, none⟩ = some (.int .i64 n) from M0.at' 4)
  have kA := fun d' os => Calls.regrown_of (rout_any k dr dc t n a most h1 (by omega) h3 h4 (grow (redrawn wm d') os))
  have kB := fun d' os => Calls.regrown_of (rout_any k dr dc t n b most h1 (by omega) h3 h4 (grow (redrawn wm d') os))
  simp only [qa, qb] at kA kB
  have hgb : Hid (n < 0 → 1 ≤ goneR n most ∧ goneR n most ≤ most) := hide (fun h => gone_bd h h3)
  replace M0 := hide M0
  go_enter Try.func61, Try.ntmps61
  go_wp2_with fail
  refine wp_region_quiet_below (by kernel_rfl) (by kernel_rfl) ?_
  repeat (go_big_quiet_step (first | (with_reducible exact kA _ _) | (with_reducible exact kB _ _)))
  refine wpQuiet_nil ?_
  intro _ hw'
  obtain ⟨⟨dq1, osq1⟩, hw''⟩ := hw'
  subst hw''
  have B1 := hide (next B0.out (below_regrown _ dq1 osq1))
  have M1 := hide (M0.out.keep (below_regrown _ dq1 osq1))
  obtain ⟨w1, hw1⟩ : ∃ w1, grow (redrawn wm dq1) osq1 = w1 := ⟨_, rfl⟩
  rw [hw1] at B1 M1 ⊢
  clear hw1 m0 m1 m2 m3 m4 kA kB hwm
  have p0 : w1.cell? ⟨w.heap.size, 0, none⟩ = some (.int .i64 k) := M1.out.at' 0
  have p1 : w1.cell? ⟨w.heap.size, 1, none⟩ = some (.int .i64 dr) := M1.out.at' 1
  have p2 : w1.cell? ⟨w.heap.size, 2, none⟩ = some (.int .i64 dc) := M1.out.at' 2
  have p3 : w1.cell? ⟨w.heap.size, 3, none⟩ = some (.int .i64 t) := M1.out.at' 3
  have p4 : w1.cell? ⟨w.heap.size, 4, none⟩ = some (.int .i64 n) := M1.out.at' 4
  have KL := hide (fun w' => rline_any k dr dc t n a most h1 (by omega) (by omega) (by omega) (by omega) h3 h4 w')
  have KM := hide (fun w' => rline_any k dr dc t n b most h1 (by omega) (by omega) (by omega) (by omega) h3 h4 w')
  go_wp2_with fail
  have B2 := B1
  replace p0 := cell_rg p0
  replace p1 := cell_rg p1
  replace p2 := cell_rg p2
  replace p3 := cell_rg p3
  replace p4 := cell_rg p4
  have k1 := fun d' os => Calls.regrown_of (KL.out (grow (redrawn w1 d') os))
  have k2 := fun d' os => Calls.regrown_of (KM.out (grow (redrawn w1 d') os))
  refine wp_region_quiet_below (by kernel_rfl) (by kernel_rfl) ?_
  repeat (go_big_quiet_step (first | (with_reducible exact k1 _ _) | (with_reducible exact k2 _ _)))
  refine wpQuiet_nil ?_
  intro _ hw'
  obtain ⟨⟨dq2, osq2⟩, hw''⟩ := hw'
  subst hw''
  go_wp2_with fail
  refine bodyPost_ret (by simp [results, Try.results61, go_sem]; try rfl) rfl ?_
  exact ⟨rfl, next B2.out (below_regrown _ dq2 osq2)⟩
set_option maxHeartbeats 2000000 in
theorem rends_ft (k dr dc t n a b most : Int) (h1 : 0 ≤ t) (h2 : t < most) (a1 : 0 ≤ a) (a2 : a < most) (b1 : 0 ≤ b) (b2 : b < most) (h3 : 1 ≤ most) (h4 : most ≤ 65536) (w : World) (qa : outR t n a most = false) (qb : outR t n b most = true) :
    Calls Try.prog 61 #[mvV k dr dc t n, .int .i64 a, .int .i64 b, .int .i64 most] w fun e w' => e = .returned (.tuple #[.int .i64 (endA t n a b most), .int .i64 (endA t n b a most), .bool true]) ∧ Below w.heap.size w w' := by
  have e1 : endA t n a b most = lineR t n a most := by unfold endA; rw [qa]; rfl
  have e2 : endA t n b a most = lineR t n (nearR t n b a most) most := by unfold endA; rw [qb]; rfl
  rw [e1, e2]
  clear e1 e2
  have M0 := Blk.new w #[.int .i64 k, .int .i64 dr, .int .i64 dc, .int .i64 t, .int .i64 n] 64
  have B0 := hide (step (Below.refl w.heap.size w) (.cells #[.int .i64 k, .int .i64 dr, .int .i64 dc, .int .i64 t, .int .i64 n] 64))
  obtain ⟨wm, hwm⟩ : ∃ wm, w.alloc (.cells #[.int .i64 k, .int .i64 dr, .int .i64 dc, .int .i64 t, .int .i64 n] 64) = wm := ⟨_, rfl⟩
  rw [hwm] at M0 B0
  have m0 := cell_rg (show wm.cell? ⟨w.heap.size, 0, none⟩ = some (.int .i64 k) from M0.at' 0)
  have m1 := cell_rg (show wm.cell? ⟨w.heap.size, 1, none⟩ = some (.int .i64 dr) from M0.at' 1)
  have m2 := cell_rg (show wm.cell? ⟨w.heap.size, 2, none⟩ = some (.int .i64 dc) from M0.at' 2)
  have m3 := cell_rg (show wm.cell? ⟨w.heap.size, 3, none⟩ = some (.int .i64 t) from M0.at' 3)
  have m4 := cell_rg (show wm.cell? ⟨w.heap.size, 4, none⟩ = some (.int .i64 n) from M0.at' 4)
  have kA := fun d' os => Calls.regrown_of (rout_any k dr dc t n a most h1 (by omega) h3 h4 (grow (redrawn wm d') os))
  have kB := fun d' os => Calls.regrown_of (rout_any k dr dc t n b most h1 (by omega) h3 h4 (grow (redrawn wm d') os))
  simp only [qa, qb] at kA kB
  have hgb : Hid (n < 0 → 1 ≤ goneR n most ∧ goneR n most ≤ most) := hide (fun h => gone_bd h h3)
  replace M0 := hide M0
  go_enter Try.func61, Try.ntmps61
  go_wp2_with fail
  refine wp_region_quiet_below (by kernel_rfl) (by kernel_rfl) ?_
  repeat (go_big_quiet_step (first | (with_reducible exact kA _ _) | (with_reducible exact kB _ _)))
  refine wpQuiet_nil ?_
  intro _ hw'
  obtain ⟨⟨dq1, osq1⟩, hw''⟩ := hw'
  subst hw''
  have B1 := hide (next B0.out (below_regrown _ dq1 osq1))
  have M1 := hide (M0.out.keep (below_regrown _ dq1 osq1))
  obtain ⟨w1, hw1⟩ : ∃ w1, grow (redrawn wm dq1) osq1 = w1 := ⟨_, rfl⟩
  rw [hw1] at B1 M1 ⊢
  clear hw1 m0 m1 m2 m3 m4 kA kB hwm
  have p0 : w1.cell? ⟨w.heap.size, 0, none⟩ = some (.int .i64 k) := M1.out.at' 0
  have p1 : w1.cell? ⟨w.heap.size, 1, none⟩ = some (.int .i64 dr) := M1.out.at' 1
  have p2 : w1.cell? ⟨w.heap.size, 2, none⟩ = some (.int .i64 dc) := M1.out.at' 2
  have p3 : w1.cell? ⟨w.heap.size, 3, none⟩ = some (.int .i64 t) := M1.out.at' 3
  have p4 : w1.cell? ⟨w.heap.size, 4, none⟩ = some (.int .i64 n) := M1.out.at' 4
  have HN := hide (rnear_any k dr dc t n b a most h1 h2 (by omega) (out_iff.1 qb).1 qb qa h3 h4 w1)
  have hna := (out_iff.1 qb).1
  have hoa := out_iff.1 qb
  have hx : 0 ≤ nearR t n b a most ∧ nearR t n b a most ≤ 131072 := by have := hgb.out hna; unfold nearR; have hb' : ¬ (n < 0 ∧ t ≤ a ∧ a < t + goneR n most) := (fun h => by rw [out_iff.2 h] at qa; cases qa); split <;> omega
  have KL := hide (fun w' => rline_any k dr dc t n a most h1 (by omega) (by omega) (by omega) (by omega) h3 h4 w')
  have KM := hide (fun w' => rline_any k dr dc t n (nearR t n b a most) most h1 (by omega) (by omega) (by omega) (by omega) h3 h4 w')
  go_wp2_with (first
    | (go_at_call 70; refine HN.out.mono ?_; rintro e w2 ⟨rfl, hb⟩; have B2 := hide (next B1.out hb); have M2 := hide (M1.out.keep hb); clear hb))
  clear p0 p1 p2 p3 p4
  have p0 := cell_rg (show w2.cell? ⟨w.heap.size, 0, none⟩ = some (.int .i64 k) from M2.out.at' 0)
  have p1 := cell_rg (show w2.cell? ⟨w.heap.size, 1, none⟩ = some (.int .i64 dr) from M2.out.at' 1)
  have p2 := cell_rg (show w2.cell? ⟨w.heap.size, 2, none⟩ = some (.int .i64 dc) from M2.out.at' 2)
  have p3 := cell_rg (show w2.cell? ⟨w.heap.size, 3, none⟩ = some (.int .i64 t) from M2.out.at' 3)
  have p4 := cell_rg (show w2.cell? ⟨w.heap.size, 4, none⟩ = some (.int .i64 n) from M2.out.at' 4)
  have k1 := fun d' os => Calls.regrown_of (KL.out (grow (redrawn w2 d') os))
  have k2 := fun d' os => Calls.regrown_of (KM.out (grow (redrawn w2 d') os))
  refine wp_region_quiet_below (by kernel_rfl) (by kernel_rfl) ?_
  repeat (go_big_quiet_step (first | (with_reducible exact k1 _ _) | (with_reducible exact k2 _ _)))
  refine wpQuiet_nil ?_
  intro _ hw'
  obtain ⟨⟨dq2, osq2⟩, hw''⟩ := hw'
  subst hw''
  go_wp2_with fail
  refine bodyPost_ret (by simp [results, Try.results61, go_sem]; try rfl) rfl ?_
  exact ⟨rfl, next B2.out (below_regrown _ dq2 osq2)⟩
set_option maxHeartbeats 2000000 in
theorem rends_tf (k dr dc t n a b most : Int) (h1 : 0 ≤ t) (h2 : t < most) (a1 : 0 ≤ a) (a2 : a < most) (b1 : 0 ≤ b) (b2 : b < most) (h3 : 1 ≤ most) (h4 : most ≤ 65536) (w : World) (qa : outR t n a most = true) (qb : outR t n b most = false) :
    Calls Try.prog 61 #[mvV k dr dc t n, .int .i64 a, .int .i64 b, .int .i64 most] w fun e w' => e = .returned (.tuple #[.int .i64 (endA t n a b most), .int .i64 (endA t n b a most), .bool true]) ∧ Below w.heap.size w w' := by
  have e1 : endA t n a b most = lineR t n (nearR t n a b most) most := by unfold endA; rw [qa]; rfl
  have e2 : endA t n b a most = lineR t n b most := by unfold endA; rw [qb]; rfl
  rw [e1, e2]
  clear e1 e2
  have M0 := Blk.new w #[.int .i64 k, .int .i64 dr, .int .i64 dc, .int .i64 t, .int .i64 n] 64
  have B0 := hide (step (Below.refl w.heap.size w) (.cells #[.int .i64 k, .int .i64 dr, .int .i64 dc, .int .i64 t, .int .i64 n] 64))
  obtain ⟨wm, hwm⟩ : ∃ wm, w.alloc (.cells #[.int .i64 k, .int .i64 dr, .int .i64 dc, .int .i64 t, .int .i64 n] 64) = wm := ⟨_, rfl⟩
  rw [hwm] at M0 B0
  have m0 := cell_rg (show wm.cell? ⟨w.heap.size, 0, none⟩ = some (.int .i64 k) from M0.at' 0)
  have m1 := cell_rg (show wm.cell? ⟨w.heap.size, 1, none⟩ = some (.int .i64 dr) from M0.at' 1)
  have m2 := cell_rg (show wm.cell? ⟨w.heap.size, 2, none⟩ = some (.int .i64 dc) from M0.at' 2)
  have m3 := cell_rg (show wm.cell? ⟨w.heap.size, 3, none⟩ = some (.int .i64 t) from M0.at' 3)
  have m4 := cell_rg (show wm.cell? ⟨w.heap.size, 4, none⟩ = some (.int .i64 n) from M0.at' 4)
  have kA := fun d' os => Calls.regrown_of (rout_any k dr dc t n a most h1 (by omega) h3 h4 (grow (redrawn wm d') os))
  have kB := fun d' os => Calls.regrown_of (rout_any k dr dc t n b most h1 (by omega) h3 h4 (grow (redrawn wm d') os))
  simp only [qa, qb] at kA kB
  have hgb : Hid (n < 0 → 1 ≤ goneR n most ∧ goneR n most ≤ most) := hide (fun h => gone_bd h h3)
  replace M0 := hide M0
  go_enter Try.func61, Try.ntmps61
  go_wp2_with fail
  refine wp_region_quiet_below (by kernel_rfl) (by kernel_rfl) ?_
  repeat (go_big_quiet_step (first | (with_reducible exact kA _ _) | (with_reducible exact kB _ _)))
  refine wpQuiet_nil ?_
  intro _ hw'
  obtain ⟨⟨dq1, osq1⟩, hw''⟩ := hw'
  subst hw''
  have B1 := hide (next B0.out (below_regrown _ dq1 osq1))
  have M1 := hide (M0.out.keep (below_regrown _ dq1 osq1))
  obtain ⟨w1, hw1⟩ : ∃ w1, grow (redrawn wm dq1) osq1 = w1 := ⟨_, rfl⟩
  rw [hw1] at B1 M1 ⊢
  clear hw1 m0 m1 m2 m3 m4 kA kB hwm
  have p0 : w1.cell? ⟨w.heap.size, 0, none⟩ = some (.int .i64 k) := M1.out.at' 0
  have p1 : w1.cell? ⟨w.heap.size, 1, none⟩ = some (.int .i64 dr) := M1.out.at' 1
  have p2 : w1.cell? ⟨w.heap.size, 2, none⟩ = some (.int .i64 dc) := M1.out.at' 2
  have p3 : w1.cell? ⟨w.heap.size, 3, none⟩ = some (.int .i64 t) := M1.out.at' 3
  have p4 : w1.cell? ⟨w.heap.size, 4, none⟩ = some (.int .i64 n) := M1.out.at' 4
  have HN := hide (rnear_any k dr dc t n a b most h1 h2 (by omega) (out_iff.1 qa).1 qa qb h3 h4 w1)
  have hna := (out_iff.1 qa).1
  have hoa := out_iff.1 qa
  have hx : 0 ≤ nearR t n a b most ∧ nearR t n a b most ≤ 131072 := by have := hgb.out hna; unfold nearR; have hb' : ¬ (n < 0 ∧ t ≤ b ∧ b < t + goneR n most) := (fun h => by rw [out_iff.2 h] at qb; cases qb); split <;> omega
  have KL := hide (fun w' => rline_any k dr dc t n (nearR t n a b most) most h1 (by omega) (by omega) (by omega) (by omega) h3 h4 w')
  have KM := hide (fun w' => rline_any k dr dc t n b most h1 (by omega) (by omega) (by omega) (by omega) h3 h4 w')
  go_wp2_with (first
    | (go_at_call 70; refine HN.out.mono ?_; rintro e w2 ⟨rfl, hb⟩; have B2 := hide (next B1.out hb); have M2 := hide (M1.out.keep hb); clear hb))
  clear p0 p1 p2 p3 p4
  have p0 := cell_rg (show w2.cell? ⟨w.heap.size, 0, none⟩ = some (.int .i64 k) from M2.out.at' 0)
  have p1 := cell_rg (show w2.cell? ⟨w.heap.size, 1, none⟩ = some (.int .i64 dr) from M2.out.at' 1)
  have p2 := cell_rg (show w2.cell? ⟨w.heap.size, 2, none⟩ = some (.int .i64 dc) from M2.out.at' 2)
  have p3 := cell_rg (show w2.cell? ⟨w.heap.size, 3, none⟩ = some (.int .i64 t) from M2.out.at' 3)
  have p4 := cell_rg (show w2.cell? ⟨w.heap.size, 4, none⟩ = some (.int .i64 n) from M2.out.at' 4)
  have k1 := fun d' os => Calls.regrown_of (KL.out (grow (redrawn w2 d') os))
  have k2 := fun d' os => Calls.regrown_of (KM.out (grow (redrawn w2 d') os))
  refine wp_region_quiet_below (by kernel_rfl) (by kernel_rfl) ?_
  repeat (go_big_quiet_step (first | (with_reducible exact k1 _ _) | (with_reducible exact k2 _ _)))
  refine wpQuiet_nil ?_
  intro _ hw'
  obtain ⟨⟨dq2, osq2⟩, hw''⟩ := hw'
  subst hw''
  go_wp2_with fail
  refine bodyPost_ret (by simp [results, Try.results61, go_sem]; try rfl) rfl ?_
  exact ⟨rfl, next B2.out (below_regrown _ dq2 osq2)⟩
set_option maxHeartbeats 2000000 in
theorem rends_tt (k dr dc t n a b most : Int) (h1 : 0 ≤ t) (h2 : t < most) (a1 : 0 ≤ a) (a2 : a < most) (b1 : 0 ≤ b) (b2 : b < most) (h3 : 1 ≤ most) (h4 : most ≤ 65536) (w : World) (qa : outR t n a most = true) (qb : outR t n b most = true) :
    Calls Try.prog 61 #[mvV k dr dc t n, .int .i64 a, .int .i64 b, .int .i64 most] w fun e w' => e = .returned (.tuple #[.int .i64 0, .int .i64 0, .bool false]) ∧ Below w.heap.size w w' := by
  have M0 := Blk.new w #[.int .i64 k, .int .i64 dr, .int .i64 dc, .int .i64 t, .int .i64 n] 64
  have B0 := hide (step (Below.refl w.heap.size w) (.cells #[.int .i64 k, .int .i64 dr, .int .i64 dc, .int .i64 t, .int .i64 n] 64))
  obtain ⟨wm, hwm⟩ : ∃ wm, w.alloc (.cells #[.int .i64 k, .int .i64 dr, .int .i64 dc, .int .i64 t, .int .i64 n] 64) = wm := ⟨_, rfl⟩
  rw [hwm] at M0 B0
  have m0 := cell_rg (show wm.cell? ⟨w.heap.size, 0, none⟩ = some (.int .i64 k) from M0.at' 0)
  have m1 := cell_rg (show wm.cell? ⟨w.heap.size, 1, none⟩ = some (.int .i64 dr) from M0.at' 1)
  have m2 := cell_rg (show wm.cell? ⟨w.heap.size, 2, none⟩ = some (.int .i64 dc) from M0.at' 2)
  have m3 := cell_rg (show wm.cell? ⟨w.heap.size, 3, none⟩ = some (.int .i64 t) from M0.at' 3)
  have m4 := cell_rg (show wm.cell? ⟨w.heap.size, 4, none⟩ = some (.int .i64 n) from M0.at' 4)
  have kA := fun d' os => Calls.regrown_of (rout_any k dr dc t n a most h1 (by omega) h3 h4 (grow (redrawn wm d') os))
  have kB := fun d' os => Calls.regrown_of (rout_any k dr dc t n b most h1 (by omega) h3 h4 (grow (redrawn wm d') os))
  simp only [qa, qb] at kA kB
  have hgb : Hid (n < 0 → 1 ≤ goneR n most ∧ goneR n most ≤ most) := hide (fun h => gone_bd h h3)
  replace M0 := hide M0
  go_enter Try.func61, Try.ntmps61
  go_wp2_with fail
  refine wp_region_quiet_below (by kernel_rfl) (by kernel_rfl) ?_
  repeat (go_big_quiet_step (first | (with_reducible exact kA _ _) | (with_reducible exact kB _ _)))
  refine wpQuiet_nil ?_
  intro _ hw'
  obtain ⟨⟨dq1, osq1⟩, hw''⟩ := hw'
  subst hw''
  have B1 := hide (next B0.out (below_regrown _ dq1 osq1))
  have M1 := hide (M0.out.keep (below_regrown _ dq1 osq1))
  obtain ⟨w1, hw1⟩ : ∃ w1, grow (redrawn wm dq1) osq1 = w1 := ⟨_, rfl⟩
  rw [hw1] at B1 M1 ⊢
  clear hw1 m0 m1 m2 m3 m4 kA kB hwm
  have p0 : w1.cell? ⟨w.heap.size, 0, none⟩ = some (.int .i64 k) := M1.out.at' 0
  have p1 : w1.cell? ⟨w.heap.size, 1, none⟩ = some (.int .i64 dr) := M1.out.at' 1
  have p2 : w1.cell? ⟨w.heap.size, 2, none⟩ = some (.int .i64 dc) := M1.out.at' 2
  have p3 : w1.cell? ⟨w.heap.size, 3, none⟩ = some (.int .i64 t) := M1.out.at' 3
  have p4 : w1.cell? ⟨w.heap.size, 4, none⟩ = some (.int .i64 n) := M1.out.at' 4
  go_wp2_with fail
  refine bodyPost_ret (by simp [results, Try.results61, go_sem]; try rfl) rfl ?_
  exact ⟨rfl, B1.out⟩
end Go.Proofs.Ytiajoppbgebnpaa
namespace Go.Proofs.Ytiajoppbgebnpaa
open Go.RowKit Go.Sort
set_option linter.unusedVariables false

set_option maxHeartbeats 2000000 in
set_option maxRecDepth 100000 in
theorem single_1t (dr dc t n : Int) (nd : Nd) (a : Option Addr) (len cap : Nat) (w : World) (hr : mayB nd.ref.row nd.ref.col = true) (ho : mayB (rfM dr dc nd.ref).row (rfM dr dc nd.ref).col = true) : Calls Try.prog 45 #[mvV 1 dr dc t n, exV nd (.slice a len cap)] w fun e w' => e = .returned (exV { nd with ref := rfM dr dc nd.ref } (.slice a len cap)) ∧ Below w.heap.size w w' := by
  have HO := hide (ron_any (rfM dr dc nd.ref))
  rw [ho] at HO
  clear ho
  have HR := hide (rref_any 1 dr dc t n nd.ref hr)
  generalize rfM dr dc nd.ref = r1 at *
  have MB0 := hide (((Blk.new w #[.int .i64 1, .int .i64 dr, .int .i64 dc, .int .i64 t, .int .i64 n] 64).alloc (exO nd (.slice a len cap))).alloc (exO nd0 (.slice none 0 0)))
  have NB0 := hide ((Blk.new1 w (.cells #[.int .i64 1, .int .i64 dr, .int .i64 dc, .int .i64 t, .int .i64 n] 64) (exC nd (.slice a len cap)) 37).alloc (exO nd0 (.slice none 0 0)))
  have RB0 := hide (Blk.new2 w (.cells #[.int .i64 1, .int .i64 dr, .int .i64 dc, .int .i64 t, .int .i64 n] 64) (exO nd (.slice a len cap)) (exC nd0 (.slice none 0 0)) 37)
  have B0 := hide (step (step (step (Below.refl w.heap.size w) (.cells #[.int .i64 1, .int .i64 dr, .int .i64 dc, .int .i64 t, .int .i64 n] 64)) (exO nd (.slice a len cap))) (exO nd0 (.slice none 0 0)))
  obtain ⟨w0, hw0⟩ : ∃ w0, ((w.alloc (.cells #[.int .i64 1, .int .i64 dr, .int .i64 dc, .int .i64 t, .int .i64 n] 64)).alloc (exO nd (.slice a len cap))).alloc (.cells #[.int .i64 0, .int .i64 0, .int .i64 0, .string { data := #[] }, .int .i64 0, .int .i64 0, .bool false, .bool false, .int .i64 0, .int .i64 0, .bool false, .bool false, .int .i64 0, .slice none 0 0] 37) = w0 := ⟨_, rfl⟩
  replace MB0 : Hid (Blk w0 w.heap.size #[.int .i64 1, .int .i64 dr, .int .i64 dc, .int .i64 t, .int .i64 n] 64) := by rw [← hw0]; exact MB0
  replace NB0 : Hid (Blk w0 (w.heap.size + 1) (exC nd (.slice a len cap)) 37) := by rw [← hw0]; exact NB0
  replace RB0 : Hid (Blk w0 (w.heap.size + 1 + 1) (exC nd0 (.slice none 0 0)) 37) := by rw [← hw0]; exact RB0
  replace B0 : Hid (Below w.heap.size w w0) := by rw [← hw0]; exact B0
  have m0 : w0.cell? ⟨w.heap.size, 0, none⟩ = some (.int .i64 1) := MB0.out.at' 0
  have m1 : w0.cell? ⟨w.heap.size, 1, none⟩ = some (.int .i64 dr) := MB0.out.at' 1
  have m2 : w0.cell? ⟨w.heap.size, 2, none⟩ = some (.int .i64 dc) := MB0.out.at' 2
  have m3 : w0.cell? ⟨w.heap.size, 3, none⟩ = some (.int .i64 t) := MB0.out.at' 3
  have m4 : w0.cell? ⟨w.heap.size, 4, none⟩ = some (.int .i64 n) := MB0.out.at' 4
  obtain ⟨z0, z1, z2, z3, z4, z5, z6, z7, z8, z9, z10, z11, z12, z13⟩ := NB0.out.c14
  try dsimp only at z0 z1 z2 z3 z4 z5 z6 z7 z8 z9 z10 z11 z12 z13
  go_enter Try.func45, Try.ntmps45
  go_wp2_with fail
  clear hw0
  refine (HR.out w0).mono ?_
  rintro e w1 ⟨rfl, hb⟩
  have B1 := hide (next B0.out hb)
  have MB1 := hide (MB0.out.keep hb)
  have NB1 := hide (NB0.out.keep hb)
  have RB1 := hide (RB0.out.keep hb)
  clear hb
  clear m0 m1 m2 m3 m4 z0 z1 z2 z3 z4 z5 z6 z7 z8 z9 z10 z11 z12 z13
  have m0 : w1.cell? ⟨w.heap.size, 0, none⟩ = some (.int .i64 1) := MB1.out.at' 0
  have m1 : w1.cell? ⟨w.heap.size, 1, none⟩ = some (.int .i64 dr) := MB1.out.at' 1
  have m2 : w1.cell? ⟨w.heap.size, 2, none⟩ = some (.int .i64 dc) := MB1.out.at' 2
  have m3 : w1.cell? ⟨w.heap.size, 3, none⟩ = some (.int .i64 t) := MB1.out.at' 3
  have m4 : w1.cell? ⟨w.heap.size, 4, none⟩ = some (.int .i64 n) := MB1.out.at' 4
  obtain ⟨z0, z1, z2, z3, z4, z5, z6, z7, z8, z9, z10, z11, z12, z13⟩ := NB1.out.c14
  try dsimp only at z0 z1 z2 z3 z4 z5 z6 z7 z8 z9 z10 z11 z12 z13
  have th := NB1.out.thr (j := 4) (by omega)
  go_wp2_with (refine wpList_putR (b := w.heap.size + 1) (j := 4) (r := r1) rfl _ _ rfl rfl rfl (by with_reducible exact th) ?_; obtain ⟨w2, hw2⟩ : ∃ w2, w2 = putR w1 (w.heap.size + 1) 4 r1 := ⟨_, rfl⟩; have B2 : Hid (Below w.heap.size w w2) := hide (by rw [hw2]; exact below_putR B1.out (by omega) 4 r1); have MB2 : Hid (Blk w2 w.heap.size #[.int .i64 1, .int .i64 dr, .int .i64 dc, .int .i64 t, .int .i64 n] 64) := hide (by rw [hw2]; exact MB1.out.putO (by omega)); have NB2 : Hid (Blk w2 (w.heap.size + 1) (exC { nd with ref := r1 } (.slice a len cap)) 37) := hide (by rw [hw2]; exact NB1.out.putR4 r1); have RB2 : Hid (Blk w2 (w.heap.size + 1 + 1) (exC nd0 (.slice none 0 0)) 37) := hide (by rw [hw2]; exact RB1.out.putO (by omega)); rw [← hw2]; clear hw2 th m0 m1 m2 m3 m4 z0 z1 z2 z3 z4 z5 z6 z7 z8 z9 z10 z11 z12 z13; obtain ⟨-, -, -, -, y4, y5, y6, y7, -, -, -, -, -, -⟩ := NB2.out.c14; dsimp only at y4 y5 y6 y7)
  refine (HO.out w2).mono ?_
  rintro e w3 ⟨rfl, hb⟩
  have B3 := hide (next B2.out hb)
  have MB3 := hide (MB2.out.keep hb)
  have NB3 := hide (NB2.out.keep hb)
  have RB3 := hide (RB2.out.keep hb)
  clear hb
  clear y4 y5 y6 y7
  go_wp2_with (first
    | (refine wpList_load_blk rfl 37 _ rfl _ rfl _ (by with_reducible exact NB3.out) _ Try.underlying37 rfl (exC_info _ _) ?_)
    | (have hst := RB3.out; refine wpList_store_row rfl 37 _ _ rfl _ (exC { nd with ref := r1 } (.slice a len cap)) rfl rfl 37 _ hst (exC_info _ _) (by rfl) (exC_one _ _ _ _) ?_))
  have F3 := RB3.out.setRow (cs := exC { nd with ref := r1 } (.slice a len cap))
  refine bodyPost_ret (v := exV { nd with ref := r1 } (.slice a len cap)) (results_cell_row Try.results45 _ _ (w.heap.size + 1 + 1) 37 (exC { nd with ref := r1 } (.slice a len cap)) (0, 0) _ rfl F3 Try.underlying37 rfl (exC_info _ _)) rfl ?_
  exact ⟨rfl, below_setRow B3.out (by omega) _⟩
set_option maxHeartbeats 2000000 in
set_option maxRecDepth 100000 in
theorem single_1f (dr dc t n : Int) (nd : Nd) (a : Option Addr) (len cap : Nat) (w : World) (hr : mayB nd.ref.row nd.ref.col = true) (ho : mayB (rfM dr dc nd.ref).row (rfM dr dc nd.ref).col = false) : Calls Try.prog 45 #[mvV 1 dr dc t n, exV nd (.slice a len cap)] w fun e w' => e = .returned (exV lostN (.slice none 0 0)) ∧ Below w.heap.size w w' := by
  have HO := hide (ron_any (rfM dr dc nd.ref))
  rw [ho] at HO
  clear ho
  have HR := hide (rref_any 1 dr dc t n nd.ref hr)
  generalize rfM dr dc nd.ref = r1 at *
  have MB0 := hide (((Blk.new w #[.int .i64 1, .int .i64 dr, .int .i64 dc, .int .i64 t, .int .i64 n] 64).alloc (exO nd (.slice a len cap))).alloc (exO nd0 (.slice none 0 0)))
  have NB0 := hide ((Blk.new1 w (.cells #[.int .i64 1, .int .i64 dr, .int .i64 dc, .int .i64 t, .int .i64 n] 64) (exC nd (.slice a len cap)) 37).alloc (exO nd0 (.slice none 0 0)))
  have RB0 := hide (Blk.new2 w (.cells #[.int .i64 1, .int .i64 dr, .int .i64 dc, .int .i64 t, .int .i64 n] 64) (exO nd (.slice a len cap)) (exC nd0 (.slice none 0 0)) 37)
  have B0 := hide (step (step (step (Below.refl w.heap.size w) (.cells #[.int .i64 1, .int .i64 dr, .int .i64 dc, .int .i64 t, .int .i64 n] 64)) (exO nd (.slice a len cap))) (exO nd0 (.slice none 0 0)))
  obtain ⟨w0, hw0⟩ : ∃ w0, ((w.alloc (.cells #[.int .i64 1, .int .i64 dr, .int .i64 dc, .int .i64 t, .int .i64 n] 64)).alloc (exO nd (.slice a len cap))).alloc (.cells #[.int .i64 0, .int .i64 0, .int .i64 0, .string { data := #[] }, .int .i64 0, .int .i64 0, .bool false, .bool false, .int .i64 0, .int .i64 0, .bool false, .bool false, .int .i64 0, .slice none 0 0] 37) = w0 := ⟨_, rfl⟩
  replace MB0 : Hid (Blk w0 w.heap.size #[.int .i64 1, .int .i64 dr, .int .i64 dc, .int .i64 t, .int .i64 n] 64) := by rw [← hw0]; exact MB0
  replace NB0 : Hid (Blk w0 (w.heap.size + 1) (exC nd (.slice a len cap)) 37) := by rw [← hw0]; exact NB0
  replace RB0 : Hid (Blk w0 (w.heap.size + 1 + 1) (exC nd0 (.slice none 0 0)) 37) := by rw [← hw0]; exact RB0
  replace B0 : Hid (Below w.heap.size w w0) := by rw [← hw0]; exact B0
  have m0 : w0.cell? ⟨w.heap.size, 0, none⟩ = some (.int .i64 1) := MB0.out.at' 0
  have m1 : w0.cell? ⟨w.heap.size, 1, none⟩ = some (.int .i64 dr) := MB0.out.at' 1
  have m2 : w0.cell? ⟨w.heap.size, 2, none⟩ = some (.int .i64 dc) := MB0.out.at' 2
  have m3 : w0.cell? ⟨w.heap.size, 3, none⟩ = some (.int .i64 t) := MB0.out.at' 3
  have m4 : w0.cell? ⟨w.heap.size, 4, none⟩ = some (.int .i64 n) := MB0.out.at' 4
  obtain ⟨z0, z1, z2, z3, z4, z5, z6, z7, z8, z9, z10, z11, z12, z13⟩ := NB0.out.c14
  try dsimp only at z0 z1 z2 z3 z4 z5 z6 z7 z8 z9 z10 z11 z12 z13
  go_enter Try.func45, Try.ntmps45
  go_wp2_with fail
  clear hw0
  refine (HR.out w0).mono ?_
  rintro e w1 ⟨rfl, hb⟩
  have B1 := hide (next B0.out hb)
  have MB1 := hide (MB0.out.keep hb)
  have NB1 := hide (NB0.out.keep hb)
  have RB1 := hide (RB0.out.keep hb)
  clear hb
  clear m0 m1 m2 m3 m4 z0 z1 z2 z3 z4 z5 z6 z7 z8 z9 z10 z11 z12 z13
  have m0 : w1.cell? ⟨w.heap.size, 0, none⟩ = some (.int .i64 1) := MB1.out.at' 0
  have m1 : w1.cell? ⟨w.heap.size, 1, none⟩ = some (.int .i64 dr) := MB1.out.at' 1
  have m2 : w1.cell? ⟨w.heap.size, 2, none⟩ = some (.int .i64 dc) := MB1.out.at' 2
  have m3 : w1.cell? ⟨w.heap.size, 3, none⟩ = some (.int .i64 t) := MB1.out.at' 3
  have m4 : w1.cell? ⟨w.heap.size, 4, none⟩ = some (.int .i64 n) := MB1.out.at' 4
  obtain ⟨z0, z1, z2, z3, z4, z5, z6, z7, z8, z9, z10, z11, z12, z13⟩ := NB1.out.c14
  try dsimp only at z0 z1 z2 z3 z4 z5 z6 z7 z8 z9 z10 z11 z12 z13
  have th := NB1.out.thr (j := 4) (by omega)
  go_wp2_with (refine wpList_putR (b := w.heap.size + 1) (j := 4) (r := r1) rfl _ _ rfl rfl rfl (by with_reducible exact th) ?_; obtain ⟨w2, hw2⟩ : ∃ w2, w2 = putR w1 (w.heap.size + 1) 4 r1 := ⟨_, rfl⟩; have B2 : Hid (Below w.heap.size w w2) := hide (by rw [hw2]; exact below_putR B1.out (by omega) 4 r1); have MB2 : Hid (Blk w2 w.heap.size #[.int .i64 1, .int .i64 dr, .int .i64 dc, .int .i64 t, .int .i64 n] 64) := hide (by rw [hw2]; exact MB1.out.putO (by omega)); have NB2 : Hid (Blk w2 (w.heap.size + 1) (exC { nd with ref := r1 } (.slice a len cap)) 37) := hide (by rw [hw2]; exact NB1.out.putR4 r1); have RB2 : Hid (Blk w2 (w.heap.size + 1 + 1) (exC nd0 (.slice none 0 0)) 37) := hide (by rw [hw2]; exact RB1.out.putO (by omega)); rw [← hw2]; clear hw2 th m0 m1 m2 m3 m4 z0 z1 z2 z3 z4 z5 z6 z7 z8 z9 z10 z11 z12 z13; obtain ⟨-, -, -, -, y4, y5, y6, y7, -, -, -, -, -, -⟩ := NB2.out.c14; dsimp only at y4 y5 y6 y7)
  refine (HO.out w2).mono ?_
  rintro e w3 ⟨rfl, hb⟩
  have B3 := hide (next B2.out hb)
  have MB3 := hide (MB2.out.keep hb)
  have NB3 := hide (NB2.out.keep hb)
  have RB3 := hide (RB2.out.keep hb)
  clear hb
  clear y4 y5 y6 y7
  go_wp2_with fail
  refine (rlost_any w3).mono ?_
  rintro e w4 ⟨rfl, hb⟩
  have B4 := hide (next B3.out hb)
  have MB4 := hide (MB3.out.keep hb)
  have NB4 := hide (NB3.out.keep hb)
  have RB4 := hide (RB3.out.keep hb)
  clear hb
  go_wp2_with (have hst := RB4.out; refine wpList_store_row rfl 37 _ _ rfl _ (exC lostN (.slice none 0 0)) rfl rfl 37 _ hst (exC_info _ _) (by rfl) (exC_one _ _ _ _) ?_)
  have F3 := RB4.out.setRow (cs := exC lostN (.slice none 0 0))
  refine bodyPost_ret (v := exV lostN (.slice none 0 0)) (results_cell_row Try.results45 _ _ (w.heap.size + 1 + 1) 37 (exC lostN (.slice none 0 0)) (0, 0) _ rfl F3 Try.underlying37 rfl (exC_info _ _)) rfl ?_
  exact ⟨rfl, below_setRow B4.out (by omega) _⟩
set_option maxHeartbeats 2000000 in
set_option maxRecDepth 100000 in
theorem single_2o (dr dc t n : Int) (nd : Nd) (a : Option Addr) (len cap : Nat) (w : World) (hr : mayB nd.ref.row nd.ref.col = true) (t0 : 0 ≤ t) (t1 : t < 65536) (ho : outR t n nd.ref.row 65536 = true) : Calls Try.prog 45 #[mvV 2 dr dc t n, exV nd (.slice a len cap)] w fun e w' => e = .returned (exV lostN (.slice none 0 0)) ∧ Below w.heap.size w w' := by
  have hr := mayB_iff.1 hr
  have HO := hide (rout_any 2 dr dc t n nd.ref.row 65536 t0 (by omega) (by omega) (by omega))
  rw [ho] at HO
  clear ho
  have MB0 := hide (((Blk.new w #[.int .i64 2, .int .i64 dr, .int .i64 dc, .int .i64 t, .int .i64 n] 64).alloc (exO nd (.slice a len cap))).alloc (exO nd0 (.slice none 0 0)))
  have NB0 := hide ((Blk.new1 w (.cells #[.int .i64 2, .int .i64 dr, .int .i64 dc, .int .i64 t, .int .i64 n] 64) (exC nd (.slice a len cap)) 37).alloc (exO nd0 (.slice none 0 0)))
  have RB0 := hide (Blk.new2 w (.cells #[.int .i64 2, .int .i64 dr, .int .i64 dc, .int .i64 t, .int .i64 n] 64) (exO nd (.slice a len cap)) (exC nd0 (.slice none 0 0)) 37)
  have B0 := hide (step (step (step (Below.refl w.heap.size w) (.cells #[.int .i64 2, .int .i64 dr, .int .i64 dc, .int .i64 t, .int .i64 n] 64)) (exO nd (.slice a len cap))) (exO nd0 (.slice none 0 0)))
  obtain ⟨w0, hw0⟩ : ∃ w0, ((w.alloc (.cells #[.int .i64 2, .int .i64 dr, .int .i64 dc, .int .i64 t, .int .i64 n] 64)).alloc (exO nd (.slice a len cap))).alloc (.cells #[.int .i64 0, .int .i64 0, .int .i64 0, .string { data := #[] }, .int .i64 0, .int .i64 0, .bool false, .bool false, .int .i64 0, .int .i64 0, .bool false, .bool false, .int .i64 0, .slice none 0 0] 37) = w0 := ⟨_, rfl⟩
  replace MB0 : Hid (Blk w0 w.heap.size #[.int .i64 2, .int .i64 dr, .int .i64 dc, .int .i64 t, .int .i64 n] 64) := by rw [← hw0]; exact MB0
  replace NB0 : Hid (Blk w0 (w.heap.size + 1) (exC nd (.slice a len cap)) 37) := by rw [← hw0]; exact NB0
  replace RB0 : Hid (Blk w0 (w.heap.size + 1 + 1) (exC nd0 (.slice none 0 0)) 37) := by rw [← hw0]; exact RB0
  replace B0 : Hid (Below w.heap.size w w0) := by rw [← hw0]; exact B0
  have m0 : w0.cell? ⟨w.heap.size, 0, none⟩ = some (.int .i64 2) := MB0.out.at' 0
  have m1 : w0.cell? ⟨w.heap.size, 1, none⟩ = some (.int .i64 dr) := MB0.out.at' 1
  have m2 : w0.cell? ⟨w.heap.size, 2, none⟩ = some (.int .i64 dc) := MB0.out.at' 2
  have m3 : w0.cell? ⟨w.heap.size, 3, none⟩ = some (.int .i64 t) := MB0.out.at' 3
  have m4 : w0.cell? ⟨w.heap.size, 4, none⟩ = some (.int .i64 n) := MB0.out.at' 4
  obtain ⟨z0, z1, z2, z3, z4, z5, z6, z7, z8, z9, z10, z11, z12, z13⟩ := NB0.out.c14
  try dsimp only at z0 z1 z2 z3 z4 z5 z6 z7 z8 z9 z10 z11 z12 z13
  go_enter Try.func45, Try.ntmps45
  go_wp2_with fail
  clear hw0
  refine (HO.out w0).mono ?_
  rintro e w1 ⟨rfl, hb⟩
  have B1 := hide (next B0.out hb)
  have MB1 := hide (MB0.out.keep hb)
  have NB1 := hide (NB0.out.keep hb)
  have RB1 := hide (RB0.out.keep hb)
  clear hb
  clear m0 m1 m2 m3 m4 z0 z1 z2 z3 z4 z5 z6 z7 z8 z9 z10 z11 z12 z13
  have m0 : w1.cell? ⟨w.heap.size, 0, none⟩ = some (.int .i64 2) := MB1.out.at' 0
  have m1 : w1.cell? ⟨w.heap.size, 1, none⟩ = some (.int .i64 dr) := MB1.out.at' 1
  have m2 : w1.cell? ⟨w.heap.size, 2, none⟩ = some (.int .i64 dc) := MB1.out.at' 2
  have m3 : w1.cell? ⟨w.heap.size, 3, none⟩ = some (.int .i64 t) := MB1.out.at' 3
  have m4 : w1.cell? ⟨w.heap.size, 4, none⟩ = some (.int .i64 n) := MB1.out.at' 4
  obtain ⟨z0, z1, z2, z3, z4, z5, z6, z7, z8, z9, z10, z11, z12, z13⟩ := NB1.out.c14
  try dsimp only at z0 z1 z2 z3 z4 z5 z6 z7 z8 z9 z10 z11 z12 z13
  go_wp2_with fail
  refine (rlost_any w1).mono ?_
  rintro e w2 ⟨rfl, hb⟩
  have B2 := hide (next B1.out hb)
  have MB2 := hide (MB1.out.keep hb)
  have NB2 := hide (NB1.out.keep hb)
  have RB2 := hide (RB1.out.keep hb)
  clear hb
  go_wp2_with (have hst := RB2.out; refine wpList_store_row rfl 37 _ _ rfl _ (exC lostN (.slice none 0 0)) rfl rfl 37 _ hst (exC_info _ _) (by rfl) (exC_one _ _ _ _) ?_)
  have F3 := RB2.out.setRow (cs := exC lostN (.slice none 0 0))
  refine bodyPost_ret (v := exV lostN (.slice none 0 0)) (results_cell_row Try.results45 _ _ (w.heap.size + 1 + 1) 37 (exC lostN (.slice none 0 0)) (0, 0) _ rfl F3 Try.underlying37 rfl (exC_info _ _)) rfl ?_
  exact ⟨rfl, below_setRow B2.out (by omega) _⟩
set_option maxHeartbeats 2000000 in
set_option maxRecDepth 100000 in
theorem single_2t (dr dc t n : Int) (nd : Nd) (a : Option Addr) (len cap : Nat) (w : World) (hr : mayB nd.ref.row nd.ref.col = true) (t0 : 0 ≤ t) (t1 : t < 65536) (ho : outR t n nd.ref.row 65536 = false) (hg : mayB { nd with ref := ⟨(lineR t n nd.ref.row 65536), nd.ref.col, nd.ref.pr, nd.ref.pc⟩ }.ref.row { nd with ref := ⟨(lineR t n nd.ref.row 65536), nd.ref.col, nd.ref.pr, nd.ref.pc⟩ }.ref.col = true) : Calls Try.prog 45 #[mvV 2 dr dc t n, exV nd (.slice a len cap)] w fun e w' => e = .returned (exV { nd with ref := ⟨(lineR t n nd.ref.row 65536), nd.ref.col, nd.ref.pr, nd.ref.pc⟩ } (.slice a len cap)) ∧ Below w.heap.size w w' := by
  have hr := mayB_iff.1 hr
  have HO := hide (rout_any 2 dr dc t n nd.ref.row 65536 t0 (by omega) (by omega) (by omega))
  rw [ho] at HO
  clear ho
  have HL := hide (rline_any 2 dr dc t n nd.ref.row 65536 t0 (by omega) (by omega) (by omega) (by omega) (by omega) (by omega))
  have HG := hide (ron_any { nd with ref := ⟨(lineR t n nd.ref.row 65536), nd.ref.col, nd.ref.pr, nd.ref.pc⟩ }.ref)
  rw [hg] at HG
  dsimp only at HG
  clear hg hr
  generalize lineR t n nd.ref.row 65536 = L at *
  have MB0 := hide (((Blk.new w #[.int .i64 2, .int .i64 dr, .int .i64 dc, .int .i64 t, .int .i64 n] 64).alloc (exO nd (.slice a len cap))).alloc (exO nd0 (.slice none 0 0)))
  have NB0 := hide ((Blk.new1 w (.cells #[.int .i64 2, .int .i64 dr, .int .i64 dc, .int .i64 t, .int .i64 n] 64) (exC nd (.slice a len cap)) 37).alloc (exO nd0 (.slice none 0 0)))
  have RB0 := hide (Blk.new2 w (.cells #[.int .i64 2, .int .i64 dr, .int .i64 dc, .int .i64 t, .int .i64 n] 64) (exO nd (.slice a len cap)) (exC nd0 (.slice none 0 0)) 37)
  have B0 := hide (step (step (step (Below.refl w.heap.size w) (.cells #[.int .i64 2, .int .i64 dr, .int .i64 dc, .int .i64 t, .int .i64 n] 64)) (exO nd (.slice a len cap))) (exO nd0 (.slice none 0 0)))
  obtain ⟨w0, hw0⟩ : ∃ w0, ((w.alloc (.cells #[.int .i64 2, .int .i64 dr, .int .i64 dc, .int .i64 t, .int .i64 n] 64)).alloc (exO nd (.slice a len cap))).alloc (.cells #[.int .i64 0, .int .i64 0, .int .i64 0, .string { data := #[] }, .int .i64 0, .int .i64 0, .bool false, .bool false, .int .i64 0, .int .i64 0, .bool false, .bool false, .int .i64 0, .slice none 0 0] 37) = w0 := ⟨_, rfl⟩
  replace MB0 : Hid (Blk w0 w.heap.size #[.int .i64 2, .int .i64 dr, .int .i64 dc, .int .i64 t, .int .i64 n] 64) := by rw [← hw0]; exact MB0
  replace NB0 : Hid (Blk w0 (w.heap.size + 1) (exC nd (.slice a len cap)) 37) := by rw [← hw0]; exact NB0
  replace RB0 : Hid (Blk w0 (w.heap.size + 1 + 1) (exC nd0 (.slice none 0 0)) 37) := by rw [← hw0]; exact RB0
  replace B0 : Hid (Below w.heap.size w w0) := by rw [← hw0]; exact B0
  have m0 : w0.cell? ⟨w.heap.size, 0, none⟩ = some (.int .i64 2) := MB0.out.at' 0
  have m1 : w0.cell? ⟨w.heap.size, 1, none⟩ = some (.int .i64 dr) := MB0.out.at' 1
  have m2 : w0.cell? ⟨w.heap.size, 2, none⟩ = some (.int .i64 dc) := MB0.out.at' 2
  have m3 : w0.cell? ⟨w.heap.size, 3, none⟩ = some (.int .i64 t) := MB0.out.at' 3
  have m4 : w0.cell? ⟨w.heap.size, 4, none⟩ = some (.int .i64 n) := MB0.out.at' 4
  obtain ⟨z0, z1, z2, z3, z4, z5, z6, z7, z8, z9, z10, z11, z12, z13⟩ := NB0.out.c14
  try dsimp only at z0 z1 z2 z3 z4 z5 z6 z7 z8 z9 z10 z11 z12 z13
  go_enter Try.func45, Try.ntmps45
  go_wp2_with fail
  clear hw0
  refine (HO.out w0).mono ?_
  rintro e w1 ⟨rfl, hb⟩
  have B1 := hide (next B0.out hb)
  have MB1 := hide (MB0.out.keep hb)
  have NB1 := hide (NB0.out.keep hb)
  have RB1 := hide (RB0.out.keep hb)
  clear hb
  clear m0 m1 m2 m3 m4 z0 z1 z2 z3 z4 z5 z6 z7 z8 z9 z10 z11 z12 z13
  have m0 : w1.cell? ⟨w.heap.size, 0, none⟩ = some (.int .i64 2) := MB1.out.at' 0
  have m1 : w1.cell? ⟨w.heap.size, 1, none⟩ = some (.int .i64 dr) := MB1.out.at' 1
  have m2 : w1.cell? ⟨w.heap.size, 2, none⟩ = some (.int .i64 dc) := MB1.out.at' 2
  have m3 : w1.cell? ⟨w.heap.size, 3, none⟩ = some (.int .i64 t) := MB1.out.at' 3
  have m4 : w1.cell? ⟨w.heap.size, 4, none⟩ = some (.int .i64 n) := MB1.out.at' 4
  obtain ⟨z0, z1, z2, z3, z4, z5, z6, z7, z8, z9, z10, z11, z12, z13⟩ := NB1.out.c14
  try dsimp only at z0 z1 z2 z3 z4 z5 z6 z7 z8 z9 z10 z11 z12 z13
  go_wp2_with fail
  refine (HL.out w1).mono ?_
  rintro e w2 ⟨rfl, hb⟩
  have B2 := hide (next B1.out hb)
  have MB2 := hide (MB1.out.keep hb)
  have NB2 := hide (NB1.out.keep hb)
  have RB2 := hide (RB1.out.keep hb)
  clear hb
  clear m0 m1 m2 m3 m4 z0 z1 z2 z3 z4 z5 z6 z7 z8 z9 z10 z11 z12 z13
  have m0 : w2.cell? ⟨w.heap.size, 0, none⟩ = some (.int .i64 2) := MB2.out.at' 0
  have m1 : w2.cell? ⟨w.heap.size, 1, none⟩ = some (.int .i64 dr) := MB2.out.at' 1
  have m2 : w2.cell? ⟨w.heap.size, 2, none⟩ = some (.int .i64 dc) := MB2.out.at' 2
  have m3 : w2.cell? ⟨w.heap.size, 3, none⟩ = some (.int .i64 t) := MB2.out.at' 3
  have m4 : w2.cell? ⟨w.heap.size, 4, none⟩ = some (.int .i64 n) := MB2.out.at' 4
  obtain ⟨z0, z1, z2, z3, z4, z5, z6, z7, z8, z9, z10, z11, z12, z13⟩ := NB2.out.c14
  try dsimp only at z0 z1 z2 z3 z4 z5 z6 z7 z8 z9 z10 z11 z12 z13
  have f4 := NB2.out.fr 4
  go_wp2_with fail
  have B3 : Hid (Below w.heap.size w (w2.setCell ⟨w.heap.size + 1, 4, none⟩ (.int .i64 L))) := hide (B2.out.setCell (p := ⟨w.heap.size + 1, 4, none⟩) (by simp) _)
  have MB3 : Hid (Blk (w2.setCell ⟨w.heap.size + 1, 4, none⟩ (.int .i64 L)) w.heap.size #[.int .i64 2, .int .i64 dr, .int .i64 dc, .int .i64 t, .int .i64 n] 64) := hide (blk_other MB2.out (by omega))
  have NB3 : Hid (Blk (w2.setCell ⟨w.heap.size + 1, 4, none⟩ (.int .i64 L)) (w.heap.size + 1) (exC { nd with ref := ⟨L, nd.ref.col, nd.ref.pr, nd.ref.pc⟩ } (.slice a len cap)) 37) := hide (NB2.out.set 4 (.int .i64 L))
  have RB3 : Hid (Blk (w2.setCell ⟨w.heap.size + 1, 4, none⟩ (.int .i64 L)) (w.heap.size + 1 + 1) (exC nd0 (.slice none 0 0)) 37) := hide (blk_other RB2.out (by omega))
  obtain ⟨w3, hw3⟩ : ∃ w3, w2.setCell ⟨w.heap.size + 1, 4, none⟩ (.int .i64 L) = w3 := ⟨_, rfl⟩
  rw [hw3] at B3 MB3 NB3 RB3 ⊢
  clear hw3
  clear f4
  clear m0 m1 m2 m3 m4 z0 z1 z2 z3 z4 z5 z6 z7 z8 z9 z10 z11 z12 z13
  refine (HG.out w3).mono ?_
  rintro e w4 ⟨rfl, hb⟩
  have B4 := hide (next B3.out hb)
  have MB4 := hide (MB3.out.keep hb)
  have NB4 := hide (NB3.out.keep hb)
  have RB4 := hide (RB3.out.keep hb)
  clear hb
  go_wp2_with (first
    | (refine wpList_load_blk rfl 37 _ rfl _ rfl _ (by with_reducible exact NB4.out) _ Try.underlying37 rfl (exC_info _ _) ?_)
    | (have hst := RB4.out; refine wpList_store_row rfl 37 _ _ rfl _ (exC { nd with ref := ⟨L, nd.ref.col, nd.ref.pr, nd.ref.pc⟩ } (.slice a len cap)) rfl rfl 37 _ hst (exC_info _ _) (by rfl) (exC_one _ _ _ _) ?_))
  have F3 := RB4.out.setRow (cs := exC { nd with ref := ⟨L, nd.ref.col, nd.ref.pr, nd.ref.pc⟩ } (.slice a len cap))
  refine bodyPost_ret (v := exV { nd with ref := ⟨L, nd.ref.col, nd.ref.pr, nd.ref.pc⟩ } (.slice a len cap)) (results_cell_row Try.results45 _ _ (w.heap.size + 1 + 1) 37 (exC { nd with ref := ⟨L, nd.ref.col, nd.ref.pr, nd.ref.pc⟩ } (.slice a len cap)) (0, 0) _ rfl F3 Try.underlying37 rfl (exC_info _ _)) rfl ?_
  exact ⟨rfl, below_setRow B4.out (by omega) _⟩
set_option maxHeartbeats 2000000 in
set_option maxRecDepth 100000 in
theorem single_2f (dr dc t n : Int) (nd : Nd) (a : Option Addr) (len cap : Nat) (w : World) (hr : mayB nd.ref.row nd.ref.col = true) (t0 : 0 ≤ t) (t1 : t < 65536) (ho : outR t n nd.ref.row 65536 = false) (hg : mayB { nd with ref := ⟨(lineR t n nd.ref.row 65536), nd.ref.col, nd.ref.pr, nd.ref.pc⟩ }.ref.row { nd with ref := ⟨(lineR t n nd.ref.row 65536), nd.ref.col, nd.ref.pr, nd.ref.pc⟩ }.ref.col = false) : Calls Try.prog 45 #[mvV 2 dr dc t n, exV nd (.slice a len cap)] w fun e w' => e = .returned (exV lostN (.slice none 0 0)) ∧ Below w.heap.size w w' := by
  have hr := mayB_iff.1 hr
  have HO := hide (rout_any 2 dr dc t n nd.ref.row 65536 t0 (by omega) (by omega) (by omega))
  rw [ho] at HO
  clear ho
  have HL := hide (rline_any 2 dr dc t n nd.ref.row 65536 t0 (by omega) (by omega) (by omega) (by omega) (by omega) (by omega))
  have HG := hide (ron_any { nd with ref := ⟨(lineR t n nd.ref.row 65536), nd.ref.col, nd.ref.pr, nd.ref.pc⟩ }.ref)
  rw [hg] at HG
  dsimp only at HG
  clear hg hr
  generalize lineR t n nd.ref.row 65536 = L at *
  have MB0 := hide (((Blk.new w #[.int .i64 2, .int .i64 dr, .int .i64 dc, .int .i64 t, .int .i64 n] 64).alloc (exO nd (.slice a len cap))).alloc (exO nd0 (.slice none 0 0)))
  have NB0 := hide ((Blk.new1 w (.cells #[.int .i64 2, .int .i64 dr, .int .i64 dc, .int .i64 t, .int .i64 n] 64) (exC nd (.slice a len cap)) 37).alloc (exO nd0 (.slice none 0 0)))
  have RB0 := hide (Blk.new2 w (.cells #[.int .i64 2, .int .i64 dr, .int .i64 dc, .int .i64 t, .int .i64 n] 64) (exO nd (.slice a len cap)) (exC nd0 (.slice none 0 0)) 37)
  have B0 := hide (step (step (step (Below.refl w.heap.size w) (.cells #[.int .i64 2, .int .i64 dr, .int .i64 dc, .int .i64 t, .int .i64 n] 64)) (exO nd (.slice a len cap))) (exO nd0 (.slice none 0 0)))
  obtain ⟨w0, hw0⟩ : ∃ w0, ((w.alloc (.cells #[.int .i64 2, .int .i64 dr, .int .i64 dc, .int .i64 t, .int .i64 n] 64)).alloc (exO nd (.slice a len cap))).alloc (.cells #[.int .i64 0, .int .i64 0, .int .i64 0, .string { data := #[] }, .int .i64 0, .int .i64 0, .bool false, .bool false, .int .i64 0, .int .i64 0, .bool false, .bool false, .int .i64 0, .slice none 0 0] 37) = w0 := ⟨_, rfl⟩
  replace MB0 : Hid (Blk w0 w.heap.size #[.int .i64 2, .int .i64 dr, .int .i64 dc, .int .i64 t, .int .i64 n] 64) := by rw [← hw0]; exact MB0
  replace NB0 : Hid (Blk w0 (w.heap.size + 1) (exC nd (.slice a len cap)) 37) := by rw [← hw0]; exact NB0
  replace RB0 : Hid (Blk w0 (w.heap.size + 1 + 1) (exC nd0 (.slice none 0 0)) 37) := by rw [← hw0]; exact RB0
  replace B0 : Hid (Below w.heap.size w w0) := by rw [← hw0]; exact B0
  have m0 : w0.cell? ⟨w.heap.size, 0, none⟩ = some (.int .i64 2) := MB0.out.at' 0
  have m1 : w0.cell? ⟨w.heap.size, 1, none⟩ = some (.int .i64 dr) := MB0.out.at' 1
  have m2 : w0.cell? ⟨w.heap.size, 2, none⟩ = some (.int .i64 dc) := MB0.out.at' 2
  have m3 : w0.cell? ⟨w.heap.size, 3, none⟩ = some (.int .i64 t) := MB0.out.at' 3
  have m4 : w0.cell? ⟨w.heap.size, 4, none⟩ = some (.int .i64 n) := MB0.out.at' 4
  obtain ⟨z0, z1, z2, z3, z4, z5, z6, z7, z8, z9, z10, z11, z12, z13⟩ := NB0.out.c14
  try dsimp only at z0 z1 z2 z3 z4 z5 z6 z7 z8 z9 z10 z11 z12 z13
  go_enter Try.func45, Try.ntmps45
  go_wp2_with fail
  clear hw0
  refine (HO.out w0).mono ?_
  rintro e w1 ⟨rfl, hb⟩
  have B1 := hide (next B0.out hb)
  have MB1 := hide (MB0.out.keep hb)
  have NB1 := hide (NB0.out.keep hb)
  have RB1 := hide (RB0.out.keep hb)
  clear hb
  clear m0 m1 m2 m3 m4 z0 z1 z2 z3 z4 z5 z6 z7 z8 z9 z10 z11 z12 z13
  have m0 : w1.cell? ⟨w.heap.size, 0, none⟩ = some (.int .i64 2) := MB1.out.at' 0
  have m1 : w1.cell? ⟨w.heap.size, 1, none⟩ = some (.int .i64 dr) := MB1.out.at' 1
  have m2 : w1.cell? ⟨w.heap.size, 2, none⟩ = some (.int .i64 dc) := MB1.out.at' 2
  have m3 : w1.cell? ⟨w.heap.size, 3, none⟩ = some (.int .i64 t) := MB1.out.at' 3
  have m4 : w1.cell? ⟨w.heap.size, 4, none⟩ = some (.int .i64 n) := MB1.out.at' 4
  obtain ⟨z0, z1, z2, z3, z4, z5, z6, z7, z8, z9, z10, z11, z12, z13⟩ := NB1.out.c14
  try dsimp only at z0 z1 z2 z3 z4 z5 z6 z7 z8 z9 z10 z11 z12 z13
  go_wp2_with fail
  refine (HL.out w1).mono ?_
  rintro e w2 ⟨rfl, hb⟩
  have B2 := hide (next B1.out hb)
  have MB2 := hide (MB1.out.keep hb)
  have NB2 := hide (NB1.out.keep hb)
  have RB2 := hide (RB1.out.keep hb)
  clear hb
  clear m0 m1 m2 m3 m4 z0 z1 z2 z3 z4 z5 z6 z7 z8 z9 z10 z11 z12 z13
  have m0 : w2.cell? ⟨w.heap.size, 0, none⟩ = some (.int .i64 2) := MB2.out.at' 0
  have m1 : w2.cell? ⟨w.heap.size, 1, none⟩ = some (.int .i64 dr) := MB2.out.at' 1
  have m2 : w2.cell? ⟨w.heap.size, 2, none⟩ = some (.int .i64 dc) := MB2.out.at' 2
  have m3 : w2.cell? ⟨w.heap.size, 3, none⟩ = some (.int .i64 t) := MB2.out.at' 3
  have m4 : w2.cell? ⟨w.heap.size, 4, none⟩ = some (.int .i64 n) := MB2.out.at' 4
  obtain ⟨z0, z1, z2, z3, z4, z5, z6, z7, z8, z9, z10, z11, z12, z13⟩ := NB2.out.c14
  try dsimp only at z0 z1 z2 z3 z4 z5 z6 z7 z8 z9 z10 z11 z12 z13
  have f4 := NB2.out.fr 4
  go_wp2_with fail
  have B3 : Hid (Below w.heap.size w (w2.setCell ⟨w.heap.size + 1, 4, none⟩ (.int .i64 L))) := hide (B2.out.setCell (p := ⟨w.heap.size + 1, 4, none⟩) (by simp) _)
  have MB3 : Hid (Blk (w2.setCell ⟨w.heap.size + 1, 4, none⟩ (.int .i64 L)) w.heap.size #[.int .i64 2, .int .i64 dr, .int .i64 dc, .int .i64 t, .int .i64 n] 64) := hide (blk_other MB2.out (by omega))
  have NB3 : Hid (Blk (w2.setCell ⟨w.heap.size + 1, 4, none⟩ (.int .i64 L)) (w.heap.size + 1) (exC { nd with ref := ⟨L, nd.ref.col, nd.ref.pr, nd.ref.pc⟩ } (.slice a len cap)) 37) := hide (NB2.out.set 4 (.int .i64 L))
  have RB3 : Hid (Blk (w2.setCell ⟨w.heap.size + 1, 4, none⟩ (.int .i64 L)) (w.heap.size + 1 + 1) (exC nd0 (.slice none 0 0)) 37) := hide (blk_other RB2.out (by omega))
  obtain ⟨w3, hw3⟩ : ∃ w3, w2.setCell ⟨w.heap.size + 1, 4, none⟩ (.int .i64 L) = w3 := ⟨_, rfl⟩
  rw [hw3] at B3 MB3 NB3 RB3 ⊢
  clear hw3
  clear f4
  clear m0 m1 m2 m3 m4 z0 z1 z2 z3 z4 z5 z6 z7 z8 z9 z10 z11 z12 z13
  refine (HG.out w3).mono ?_
  rintro e w4 ⟨rfl, hb⟩
  have B4 := hide (next B3.out hb)
  have MB4 := hide (MB3.out.keep hb)
  have NB4 := hide (NB3.out.keep hb)
  have RB4 := hide (RB3.out.keep hb)
  clear hb
  go_wp2_with fail
  refine (rlost_any w4).mono ?_
  rintro e w5 ⟨rfl, hb⟩
  have B5 := hide (next B4.out hb)
  have MB5 := hide (MB4.out.keep hb)
  have NB5 := hide (NB4.out.keep hb)
  have RB5 := hide (RB4.out.keep hb)
  clear hb
  go_wp2_with (have hst := RB5.out; refine wpList_store_row rfl 37 _ _ rfl _ (exC lostN (.slice none 0 0)) rfl rfl 37 _ hst (exC_info _ _) (by rfl) (exC_one _ _ _ _) ?_)
  have F3 := RB5.out.setRow (cs := exC lostN (.slice none 0 0))
  refine bodyPost_ret (v := exV lostN (.slice none 0 0)) (results_cell_row Try.results45 _ _ (w.heap.size + 1 + 1) 37 (exC lostN (.slice none 0 0)) (0, 0) _ rfl F3 Try.underlying37 rfl (exC_info _ _)) rfl ?_
  exact ⟨rfl, below_setRow B5.out (by omega) _⟩
set_option maxHeartbeats 2000000 in
set_option maxRecDepth 100000 in
theorem single_3o (dr dc t n : Int) (nd : Nd) (a : Option Addr) (len cap : Nat) (w : World) (hr : mayB nd.ref.row nd.ref.col = true) (t0 : 0 ≤ t) (t1 : t < 702) (ho : outR t n nd.ref.col 702 = true) : Calls Try.prog 45 #[mvV 3 dr dc t n, exV nd (.slice a len cap)] w fun e w' => e = .returned (exV lostN (.slice none 0 0)) ∧ Below w.heap.size w w' := by
  have hr := mayB_iff.1 hr
  have HO := hide (rout_any 3 dr dc t n nd.ref.col 702 t0 (by omega) (by omega) (by omega))
  rw [ho] at HO
  clear ho
  have MB0 := hide (((Blk.new w #[.int .i64 3, .int .i64 dr, .int .i64 dc, .int .i64 t, .int .i64 n] 64).alloc (exO nd (.slice a len cap))).alloc (exO nd0 (.slice none 0 0)))
  have NB0 := hide ((Blk.new1 w (.cells #[.int .i64 3, .int .i64 dr, .int .i64 dc, .int .i64 t, .int .i64 n] 64) (exC nd (.slice a len cap)) 37).alloc (exO nd0 (.slice none 0 0)))
  have RB0 := hide (Blk.new2 w (.cells #[.int .i64 3, .int .i64 dr, .int .i64 dc, .int .i64 t, .int .i64 n] 64) (exO nd (.slice a len cap)) (exC nd0 (.slice none 0 0)) 37)
  have B0 := hide (step (step (step (Below.refl w.heap.size w) (.cells #[.int .i64 3, .int .i64 dr, .int .i64 dc, .int .i64 t, .int .i64 n] 64)) (exO nd (.slice a len cap))) (exO nd0 (.slice none 0 0)))
  obtain ⟨w0, hw0⟩ : ∃ w0, ((w.alloc (.cells #[.int .i64 3, .int .i64 dr, .int .i64 dc, .int .i64 t, .int .i64 n] 64)).alloc (exO nd (.slice a len cap))).alloc (.cells #[.int .i64 0, .int .i64 0, .int .i64 0, .string { data := #[] }, .int .i64 0, .int .i64 0, .bool false, .bool false, .int .i64 0, .int .i64 0, .bool false, .bool false, .int .i64 0, .slice none 0 0] 37) = w0 := ⟨_, rfl⟩
  replace MB0 : Hid (Blk w0 w.heap.size #[.int .i64 3, .int .i64 dr, .int .i64 dc, .int .i64 t, .int .i64 n] 64) := by rw [← hw0]; exact MB0
  replace NB0 : Hid (Blk w0 (w.heap.size + 1) (exC nd (.slice a len cap)) 37) := by rw [← hw0]; exact NB0
  replace RB0 : Hid (Blk w0 (w.heap.size + 1 + 1) (exC nd0 (.slice none 0 0)) 37) := by rw [← hw0]; exact RB0
  replace B0 : Hid (Below w.heap.size w w0) := by rw [← hw0]; exact B0
  have m0 : w0.cell? ⟨w.heap.size, 0, none⟩ = some (.int .i64 3) := MB0.out.at' 0
  have m1 : w0.cell? ⟨w.heap.size, 1, none⟩ = some (.int .i64 dr) := MB0.out.at' 1
  have m2 : w0.cell? ⟨w.heap.size, 2, none⟩ = some (.int .i64 dc) := MB0.out.at' 2
  have m3 : w0.cell? ⟨w.heap.size, 3, none⟩ = some (.int .i64 t) := MB0.out.at' 3
  have m4 : w0.cell? ⟨w.heap.size, 4, none⟩ = some (.int .i64 n) := MB0.out.at' 4
  obtain ⟨z0, z1, z2, z3, z4, z5, z6, z7, z8, z9, z10, z11, z12, z13⟩ := NB0.out.c14
  try dsimp only at z0 z1 z2 z3 z4 z5 z6 z7 z8 z9 z10 z11 z12 z13
  go_enter Try.func45, Try.ntmps45
  go_wp2_with fail
  clear hw0
  refine (HO.out w0).mono ?_
  rintro e w1 ⟨rfl, hb⟩
  have B1 := hide (next B0.out hb)
  have MB1 := hide (MB0.out.keep hb)
  have NB1 := hide (NB0.out.keep hb)
  have RB1 := hide (RB0.out.keep hb)
  clear hb
  clear m0 m1 m2 m3 m4 z0 z1 z2 z3 z4 z5 z6 z7 z8 z9 z10 z11 z12 z13
  have m0 : w1.cell? ⟨w.heap.size, 0, none⟩ = some (.int .i64 3) := MB1.out.at' 0
  have m1 : w1.cell? ⟨w.heap.size, 1, none⟩ = some (.int .i64 dr) := MB1.out.at' 1
  have m2 : w1.cell? ⟨w.heap.size, 2, none⟩ = some (.int .i64 dc) := MB1.out.at' 2
  have m3 : w1.cell? ⟨w.heap.size, 3, none⟩ = some (.int .i64 t) := MB1.out.at' 3
  have m4 : w1.cell? ⟨w.heap.size, 4, none⟩ = some (.int .i64 n) := MB1.out.at' 4
  obtain ⟨z0, z1, z2, z3, z4, z5, z6, z7, z8, z9, z10, z11, z12, z13⟩ := NB1.out.c14
  try dsimp only at z0 z1 z2 z3 z4 z5 z6 z7 z8 z9 z10 z11 z12 z13
  go_wp2_with fail
  refine (rlost_any w1).mono ?_
  rintro e w2 ⟨rfl, hb⟩
  have B2 := hide (next B1.out hb)
  have MB2 := hide (MB1.out.keep hb)
  have NB2 := hide (NB1.out.keep hb)
  have RB2 := hide (RB1.out.keep hb)
  clear hb
  go_wp2_with (have hst := RB2.out; refine wpList_store_row rfl 37 _ _ rfl _ (exC lostN (.slice none 0 0)) rfl rfl 37 _ hst (exC_info _ _) (by rfl) (exC_one _ _ _ _) ?_)
  have F3 := RB2.out.setRow (cs := exC lostN (.slice none 0 0))
  refine bodyPost_ret (v := exV lostN (.slice none 0 0)) (results_cell_row Try.results45 _ _ (w.heap.size + 1 + 1) 37 (exC lostN (.slice none 0 0)) (0, 0) _ rfl F3 Try.underlying37 rfl (exC_info _ _)) rfl ?_
  exact ⟨rfl, below_setRow B2.out (by omega) _⟩
set_option maxHeartbeats 2000000 in
set_option maxRecDepth 100000 in
theorem single_3t (dr dc t n : Int) (nd : Nd) (a : Option Addr) (len cap : Nat) (w : World) (hr : mayB nd.ref.row nd.ref.col = true) (t0 : 0 ≤ t) (t1 : t < 702) (ho : outR t n nd.ref.col 702 = false) (hg : mayB { nd with ref := ⟨nd.ref.row, (lineR t n nd.ref.col 702), nd.ref.pr, nd.ref.pc⟩ }.ref.row { nd with ref := ⟨nd.ref.row, (lineR t n nd.ref.col 702), nd.ref.pr, nd.ref.pc⟩ }.ref.col = true) : Calls Try.prog 45 #[mvV 3 dr dc t n, exV nd (.slice a len cap)] w fun e w' => e = .returned (exV { nd with ref := ⟨nd.ref.row, (lineR t n nd.ref.col 702), nd.ref.pr, nd.ref.pc⟩ } (.slice a len cap)) ∧ Below w.heap.size w w' := by
  have hr := mayB_iff.1 hr
  have HO := hide (rout_any 3 dr dc t n nd.ref.col 702 t0 (by omega) (by omega) (by omega))
  rw [ho] at HO
  clear ho
  have HL := hide (rline_any 3 dr dc t n nd.ref.col 702 t0 (by omega) (by omega) (by omega) (by omega) (by omega) (by omega))
  have HG := hide (ron_any { nd with ref := ⟨nd.ref.row, (lineR t n nd.ref.col 702), nd.ref.pr, nd.ref.pc⟩ }.ref)
  rw [hg] at HG
  dsimp only at HG
  clear hg hr
  generalize lineR t n nd.ref.col 702 = L at *
  have MB0 := hide (((Blk.new w #[.int .i64 3, .int .i64 dr, .int .i64 dc, .int .i64 t, .int .i64 n] 64).alloc (exO nd (.slice a len cap))).alloc (exO nd0 (.slice none 0 0)))
  have NB0 := hide ((Blk.new1 w (.cells #[.int .i64 3, .int .i64 dr, .int .i64 dc, .int .i64 t, .int .i64 n] 64) (exC nd (.slice a len cap)) 37).alloc (exO nd0 (.slice none 0 0)))
  have RB0 := hide (Blk.new2 w (.cells #[.int .i64 3, .int .i64 dr, .int .i64 dc, .int .i64 t, .int .i64 n] 64) (exO nd (.slice a len cap)) (exC nd0 (.slice none 0 0)) 37)
  have B0 := hide (step (step (step (Below.refl w.heap.size w) (.cells #[.int .i64 3, .int .i64 dr, .int .i64 dc, .int .i64 t, .int .i64 n] 64)) (exO nd (.slice a len cap))) (exO nd0 (.slice none 0 0)))
  obtain ⟨w0, hw0⟩ : ∃ w0, ((w.alloc (.cells #[.int .i64 3, .int .i64 dr, .int .i64 dc, .int .i64 t, .int .i64 n] 64)).alloc (exO nd (.slice a len cap))).alloc (.cells #[.int .i64 0, .int .i64 0, .int .i64 0, .string { data := #[] }, .int .i64 0, .int .i64 0, .bool false, .bool false, .int .i64 0, .int .i64 0, .bool false, .bool false, .int .i64 0, .slice none 0 0] 37) = w0 := ⟨_, rfl⟩
  replace MB0 : Hid (Blk w0 w.heap.size #[.int .i64 3, .int .i64 dr, .int .i64 dc, .int .i64 t, .int .i64 n] 64) := by rw [← hw0]; exact MB0
  replace NB0 : Hid (Blk w0 (w.heap.size + 1) (exC nd (.slice a len cap)) 37) := by rw [← hw0]; exact NB0
  replace RB0 : Hid (Blk w0 (w.heap.size + 1 + 1) (exC nd0 (.slice none 0 0)) 37) := by rw [← hw0]; exact RB0
  replace B0 : Hid (Below w.heap.size w w0) := by rw [← hw0]; exact B0
  have m0 : w0.cell? ⟨w.heap.size, 0, none⟩ = some (.int .i64 3) := MB0.out.at' 0
  have m1 : w0.cell? ⟨w.heap.size, 1, none⟩ = some (.int .i64 dr) := MB0.out.at' 1
  have m2 : w0.cell? ⟨w.heap.size, 2, none⟩ = some (.int .i64 dc) := MB0.out.at' 2
  have m3 : w0.cell? ⟨w.heap.size, 3, none⟩ = some (.int .i64 t) := MB0.out.at' 3
  have m4 : w0.cell? ⟨w.heap.size, 4, none⟩ = some (.int .i64 n) := MB0.out.at' 4
  obtain ⟨z0, z1, z2, z3, z4, z5, z6, z7, z8, z9, z10, z11, z12, z13⟩ := NB0.out.c14
  try dsimp only at z0 z1 z2 z3 z4 z5 z6 z7 z8 z9 z10 z11 z12 z13
  go_enter Try.func45, Try.ntmps45
  go_wp2_with fail
  clear hw0
  refine (HO.out w0).mono ?_
  rintro e w1 ⟨rfl, hb⟩
  have B1 := hide (next B0.out hb)
  have MB1 := hide (MB0.out.keep hb)
  have NB1 := hide (NB0.out.keep hb)
  have RB1 := hide (RB0.out.keep hb)
  clear hb
  clear m0 m1 m2 m3 m4 z0 z1 z2 z3 z4 z5 z6 z7 z8 z9 z10 z11 z12 z13
  have m0 : w1.cell? ⟨w.heap.size, 0, none⟩ = some (.int .i64 3) := MB1.out.at' 0
  have m1 : w1.cell? ⟨w.heap.size, 1, none⟩ = some (.int .i64 dr) := MB1.out.at' 1
  have m2 : w1.cell? ⟨w.heap.size, 2, none⟩ = some (.int .i64 dc) := MB1.out.at' 2
  have m3 : w1.cell? ⟨w.heap.size, 3, none⟩ = some (.int .i64 t) := MB1.out.at' 3
  have m4 : w1.cell? ⟨w.heap.size, 4, none⟩ = some (.int .i64 n) := MB1.out.at' 4
  obtain ⟨z0, z1, z2, z3, z4, z5, z6, z7, z8, z9, z10, z11, z12, z13⟩ := NB1.out.c14
  try dsimp only at z0 z1 z2 z3 z4 z5 z6 z7 z8 z9 z10 z11 z12 z13
  go_wp2_with fail
  refine (HL.out w1).mono ?_
  rintro e w2 ⟨rfl, hb⟩
  have B2 := hide (next B1.out hb)
  have MB2 := hide (MB1.out.keep hb)
  have NB2 := hide (NB1.out.keep hb)
  have RB2 := hide (RB1.out.keep hb)
  clear hb
  clear m0 m1 m2 m3 m4 z0 z1 z2 z3 z4 z5 z6 z7 z8 z9 z10 z11 z12 z13
  have m0 : w2.cell? ⟨w.heap.size, 0, none⟩ = some (.int .i64 3) := MB2.out.at' 0
  have m1 : w2.cell? ⟨w.heap.size, 1, none⟩ = some (.int .i64 dr) := MB2.out.at' 1
  have m2 : w2.cell? ⟨w.heap.size, 2, none⟩ = some (.int .i64 dc) := MB2.out.at' 2
  have m3 : w2.cell? ⟨w.heap.size, 3, none⟩ = some (.int .i64 t) := MB2.out.at' 3
  have m4 : w2.cell? ⟨w.heap.size, 4, none⟩ = some (.int .i64 n) := MB2.out.at' 4
  obtain ⟨z0, z1, z2, z3, z4, z5, z6, z7, z8, z9, z10, z11, z12, z13⟩ := NB2.out.c14
  try dsimp only at z0 z1 z2 z3 z4 z5 z6 z7 z8 z9 z10 z11 z12 z13
  have f4 := NB2.out.fr 5
  go_wp2_with fail
  have B3 : Hid (Below w.heap.size w (w2.setCell ⟨w.heap.size + 1, 5, none⟩ (.int .i64 L))) := hide (B2.out.setCell (p := ⟨w.heap.size + 1, 5, none⟩) (by simp) _)
  have MB3 : Hid (Blk (w2.setCell ⟨w.heap.size + 1, 5, none⟩ (.int .i64 L)) w.heap.size #[.int .i64 3, .int .i64 dr, .int .i64 dc, .int .i64 t, .int .i64 n] 64) := hide (blk_other MB2.out (by omega))
  have NB3 : Hid (Blk (w2.setCell ⟨w.heap.size + 1, 5, none⟩ (.int .i64 L)) (w.heap.size + 1) (exC { nd with ref := ⟨nd.ref.row, L, nd.ref.pr, nd.ref.pc⟩ } (.slice a len cap)) 37) := hide (NB2.out.set 5 (.int .i64 L))
  have RB3 : Hid (Blk (w2.setCell ⟨w.heap.size + 1, 5, none⟩ (.int .i64 L)) (w.heap.size + 1 + 1) (exC nd0 (.slice none 0 0)) 37) := hide (blk_other RB2.out (by omega))
  obtain ⟨w3, hw3⟩ : ∃ w3, w2.setCell ⟨w.heap.size + 1, 5, none⟩ (.int .i64 L) = w3 := ⟨_, rfl⟩
  rw [hw3] at B3 MB3 NB3 RB3 ⊢
  clear hw3
  clear f4
  clear m0 m1 m2 m3 m4 z0 z1 z2 z3 z4 z5 z6 z7 z8 z9 z10 z11 z12 z13
  refine (HG.out w3).mono ?_
  rintro e w4 ⟨rfl, hb⟩
  have B4 := hide (next B3.out hb)
  have MB4 := hide (MB3.out.keep hb)
  have NB4 := hide (NB3.out.keep hb)
  have RB4 := hide (RB3.out.keep hb)
  clear hb
  go_wp2_with (first
    | (refine wpList_load_blk rfl 37 _ rfl _ rfl _ (by with_reducible exact NB4.out) _ Try.underlying37 rfl (exC_info _ _) ?_)
    | (have hst := RB4.out; refine wpList_store_row rfl 37 _ _ rfl _ (exC { nd with ref := ⟨nd.ref.row, L, nd.ref.pr, nd.ref.pc⟩ } (.slice a len cap)) rfl rfl 37 _ hst (exC_info _ _) (by rfl) (exC_one _ _ _ _) ?_))
  have F3 := RB4.out.setRow (cs := exC { nd with ref := ⟨nd.ref.row, L, nd.ref.pr, nd.ref.pc⟩ } (.slice a len cap))
  refine bodyPost_ret (v := exV { nd with ref := ⟨nd.ref.row, L, nd.ref.pr, nd.ref.pc⟩ } (.slice a len cap)) (results_cell_row Try.results45 _ _ (w.heap.size + 1 + 1) 37 (exC { nd with ref := ⟨nd.ref.row, L, nd.ref.pr, nd.ref.pc⟩ } (.slice a len cap)) (0, 0) _ rfl F3 Try.underlying37 rfl (exC_info _ _)) rfl ?_
  exact ⟨rfl, below_setRow B4.out (by omega) _⟩
set_option maxHeartbeats 2000000 in
set_option maxRecDepth 100000 in
theorem single_3f (dr dc t n : Int) (nd : Nd) (a : Option Addr) (len cap : Nat) (w : World) (hr : mayB nd.ref.row nd.ref.col = true) (t0 : 0 ≤ t) (t1 : t < 702) (ho : outR t n nd.ref.col 702 = false) (hg : mayB { nd with ref := ⟨nd.ref.row, (lineR t n nd.ref.col 702), nd.ref.pr, nd.ref.pc⟩ }.ref.row { nd with ref := ⟨nd.ref.row, (lineR t n nd.ref.col 702), nd.ref.pr, nd.ref.pc⟩ }.ref.col = false) : Calls Try.prog 45 #[mvV 3 dr dc t n, exV nd (.slice a len cap)] w fun e w' => e = .returned (exV lostN (.slice none 0 0)) ∧ Below w.heap.size w w' := by
  have hr := mayB_iff.1 hr
  have HO := hide (rout_any 3 dr dc t n nd.ref.col 702 t0 (by omega) (by omega) (by omega))
  rw [ho] at HO
  clear ho
  have HL := hide (rline_any 3 dr dc t n nd.ref.col 702 t0 (by omega) (by omega) (by omega) (by omega) (by omega) (by omega))
  have HG := hide (ron_any { nd with ref := ⟨nd.ref.row, (lineR t n nd.ref.col 702), nd.ref.pr, nd.ref.pc⟩ }.ref)
  rw [hg] at HG
  dsimp only at HG
  clear hg hr
  generalize lineR t n nd.ref.col 702 = L at *
  have MB0 := hide (((Blk.new w #[.int .i64 3, .int .i64 dr, .int .i64 dc, .int .i64 t, .int .i64 n] 64).alloc (exO nd (.slice a len cap))).alloc (exO nd0 (.slice none 0 0)))
  have NB0 := hide ((Blk.new1 w (.cells #[.int .i64 3, .int .i64 dr, .int .i64 dc, .int .i64 t, .int .i64 n] 64) (exC nd (.slice a len cap)) 37).alloc (exO nd0 (.slice none 0 0)))
  have RB0 := hide (Blk.new2 w (.cells #[.int .i64 3, .int .i64 dr, .int .i64 dc, .int .i64 t, .int .i64 n] 64) (exO nd (.slice a len cap)) (exC nd0 (.slice none 0 0)) 37)
  have B0 := hide (step (step (step (Below.refl w.heap.size w) (.cells #[.int .i64 3, .int .i64 dr, .int .i64 dc, .int .i64 t, .int .i64 n] 64)) (exO nd (.slice a len cap))) (exO nd0 (.slice none 0 0)))
  obtain ⟨w0, hw0⟩ : ∃ w0, ((w.alloc (.cells #[.int .i64 3, .int .i64 dr, .int .i64 dc, .int .i64 t, .int .i64 n] 64)).alloc (exO nd (.slice a len cap))).alloc (.cells #[.int .i64 0, .int .i64 0, .int .i64 0, .string { data := #[] }, .int .i64 0, .int .i64 0, .bool false, .bool false, .int .i64 0, .int .i64 0, .bool false, .bool false, .int .i64 0, .slice none 0 0] 37) = w0 := ⟨_, rfl⟩
  replace MB0 : Hid (Blk w0 w.heap.size #[.int .i64 3, .int .i64 dr, .int .i64 dc, .int .i64 t, .int .i64 n] 64) := by rw [← hw0]; exact MB0
  replace NB0 : Hid (Blk w0 (w.heap.size + 1) (exC nd (.slice a len cap)) 37) := by rw [← hw0]; exact NB0
  replace RB0 : Hid (Blk w0 (w.heap.size + 1 + 1) (exC nd0 (.slice none 0 0)) 37) := by rw [← hw0]; exact RB0
  replace B0 : Hid (Below w.heap.size w w0) := by rw [← hw0]; exact B0
  have m0 : w0.cell? ⟨w.heap.size, 0, none⟩ = some (.int .i64 3) := MB0.out.at' 0
  have m1 : w0.cell? ⟨w.heap.size, 1, none⟩ = some (.int .i64 dr) := MB0.out.at' 1
  have m2 : w0.cell? ⟨w.heap.size, 2, none⟩ = some (.int .i64 dc) := MB0.out.at' 2
  have m3 : w0.cell? ⟨w.heap.size, 3, none⟩ = some (.int .i64 t) := MB0.out.at' 3
  have m4 : w0.cell? ⟨w.heap.size, 4, none⟩ = some (.int .i64 n) := MB0.out.at' 4
  obtain ⟨z0, z1, z2, z3, z4, z5, z6, z7, z8, z9, z10, z11, z12, z13⟩ := NB0.out.c14
  try dsimp only at z0 z1 z2 z3 z4 z5 z6 z7 z8 z9 z10 z11 z12 z13
  go_enter Try.func45, Try.ntmps45
  go_wp2_with fail
  clear hw0
  refine (HO.out w0).mono ?_
  rintro e w1 ⟨rfl, hb⟩
  have B1 := hide (next B0.out hb)
  have MB1 := hide (MB0.out.keep hb)
  have NB1 := hide (NB0.out.keep hb)
  have RB1 := hide (RB0.out.keep hb)
  clear hb
  clear m0 m1 m2 m3 m4 z0 z1 z2 z3 z4 z5 z6 z7 z8 z9 z10 z11 z12 z13
  have m0 : w1.cell? ⟨w.heap.size, 0, none⟩ = some (.int .i64 3) := MB1.out.at' 0
  have m1 : w1.cell? ⟨w.heap.size, 1, none⟩ = some (.int .i64 dr) := MB1.out.at' 1
  have m2 : w1.cell? ⟨w.heap.size, 2, none⟩ = some (.int .i64 dc) := MB1.out.at' 2
  have m3 : w1.cell? ⟨w.heap.size, 3, none⟩ = some (.int .i64 t) := MB1.out.at' 3
  have m4 : w1.cell? ⟨w.heap.size, 4, none⟩ = some (.int .i64 n) := MB1.out.at' 4
  obtain ⟨z0, z1, z2, z3, z4, z5, z6, z7, z8, z9, z10, z11, z12, z13⟩ := NB1.out.c14
  try dsimp only at z0 z1 z2 z3 z4 z5 z6 z7 z8 z9 z10 z11 z12 z13
  go_wp2_with fail
  refine (HL.out w1).mono ?_
  rintro e w2 ⟨rfl, hb⟩
  have B2 := hide (next B1.out hb)
  have MB2 := hide (MB1.out.keep hb)
  have NB2 := hide (NB1.out.keep hb)
  have RB2 := hide (RB1.out.keep hb)
  clear hb
  clear m0 m1 m2 m3 m4 z0 z1 z2 z3 z4 z5 z6 z7 z8 z9 z10 z11 z12 z13
  have m0 : w2.cell? ⟨w.heap.size, 0, none⟩ = some (.int .i64 3) := MB2.out.at' 0
  have m1 : w2.cell? ⟨w.heap.size, 1, none⟩ = some (.int .i64 dr) := MB2.out.at' 1
  have m2 : w2.cell? ⟨w.heap.size, 2, none⟩ = some (.int .i64 dc) := MB2.out.at' 2
  have m3 : w2.cell? ⟨w.heap.size, 3, none⟩ = some (.int .i64 t) := MB2.out.at' 3
  have m4 : w2.cell? ⟨w.heap.size, 4, none⟩ = some (.int .i64 n) := MB2.out.at' 4
  obtain ⟨z0, z1, z2, z3, z4, z5, z6, z7, z8, z9, z10, z11, z12, z13⟩ := NB2.out.c14
  try dsimp only at z0 z1 z2 z3 z4 z5 z6 z7 z8 z9 z10 z11 z12 z13
  have f4 := NB2.out.fr 5
  go_wp2_with fail
  have B3 : Hid (Below w.heap.size w (w2.setCell ⟨w.heap.size + 1, 5, none⟩ (.int .i64 L))) := hide (B2.out.setCell (p := ⟨w.heap.size + 1, 5, none⟩) (by simp) _)
  have MB3 : Hid (Blk (w2.setCell ⟨w.heap.size + 1, 5, none⟩ (.int .i64 L)) w.heap.size #[.int .i64 3, .int .i64 dr, .int .i64 dc, .int .i64 t, .int .i64 n] 64) := hide (blk_other MB2.out (by omega))
  have NB3 : Hid (Blk (w2.setCell ⟨w.heap.size + 1, 5, none⟩ (.int .i64 L)) (w.heap.size + 1) (exC { nd with ref := ⟨nd.ref.row, L, nd.ref.pr, nd.ref.pc⟩ } (.slice a len cap)) 37) := hide (NB2.out.set 5 (.int .i64 L))
  have RB3 : Hid (Blk (w2.setCell ⟨w.heap.size + 1, 5, none⟩ (.int .i64 L)) (w.heap.size + 1 + 1) (exC nd0 (.slice none 0 0)) 37) := hide (blk_other RB2.out (by omega))
  obtain ⟨w3, hw3⟩ : ∃ w3, w2.setCell ⟨w.heap.size + 1, 5, none⟩ (.int .i64 L) = w3 := ⟨_, rfl⟩
  rw [hw3] at B3 MB3 NB3 RB3 ⊢
  clear hw3
  clear f4
  clear m0 m1 m2 m3 m4 z0 z1 z2 z3 z4 z5 z6 z7 z8 z9 z10 z11 z12 z13
  refine (HG.out w3).mono ?_
  rintro e w4 ⟨rfl, hb⟩
  have B4 := hide (next B3.out hb)
  have MB4 := hide (MB3.out.keep hb)
  have NB4 := hide (NB3.out.keep hb)
  have RB4 := hide (RB3.out.keep hb)
  clear hb
  go_wp2_with fail
  refine (rlost_any w4).mono ?_
  rintro e w5 ⟨rfl, hb⟩
  have B5 := hide (next B4.out hb)
  have MB5 := hide (MB4.out.keep hb)
  have NB5 := hide (NB4.out.keep hb)
  have RB5 := hide (RB4.out.keep hb)
  clear hb
  go_wp2_with (have hst := RB5.out; refine wpList_store_row rfl 37 _ _ rfl _ (exC lostN (.slice none 0 0)) rfl rfl 37 _ hst (exC_info _ _) (by rfl) (exC_one _ _ _ _) ?_)
  have F3 := RB5.out.setRow (cs := exC lostN (.slice none 0 0))
  refine bodyPost_ret (v := exV lostN (.slice none 0 0)) (results_cell_row Try.results45 _ _ (w.heap.size + 1 + 1) 37 (exC lostN (.slice none 0 0)) (0, 0) _ rfl F3 Try.underlying37 rfl (exC_info _ _)) rfl ?_
  exact ⟨rfl, below_setRow B5.out (by omega) _⟩
end Go.Proofs.Ytiajoppbgebnpaa
namespace Go.Proofs.Ytiajoppbgebnpaa
open Go.RowKit Go.Sort
set_option linter.unusedVariables false

theorem rends_no (k dr dc t n a b most : Int) (h1 : 0 ≤ t) (h2 : t < most) (a1 : 0 ≤ a) (a2 : a < most) (b1 : 0 ≤ b) (b2 : b < most) (h3 : 1 ≤ most) (h4 : most ≤ 65536) (q : (outR t n a most && outR t n b most) = false) (w : World) :
    Calls Try.prog 61 #[mvV k dr dc t n, .int .i64 a, .int .i64 b, .int .i64 most] w fun e w' => e = .returned (.tuple #[.int .i64 (endA t n a b most), .int .i64 (endA t n b a most), .bool true]) ∧ Below w.heap.size w w' := by
  cases qa : outR t n a most
  · cases qb : outR t n b most
    · exact rends_ff k dr dc t n a b most h1 h2 a1 a2 b1 b2 h3 h4 w qa qb
    · exact rends_ft k dr dc t n a b most h1 h2 a1 a2 b1 b2 h3 h4 w qa qb
  · cases qb : outR t n b most
    · exact rends_tf k dr dc t n a b most h1 h2 a1 a2 b1 b2 h3 h4 w qa qb
    · rw [qa, qb] at q; cases q
theorem rends_yes (k dr dc t n a b most : Int) (h1 : 0 ≤ t) (h2 : t < most) (a1 : 0 ≤ a) (a2 : a < most) (b1 : 0 ≤ b) (b2 : b < most) (h3 : 1 ≤ most) (h4 : most ≤ 65536) (q : (outR t n a most && outR t n b most) = true) (w : World) :
    Calls Try.prog 61 #[mvV k dr dc t n, .int .i64 a, .int .i64 b, .int .i64 most] w fun e w' => e = .returned (.tuple #[.int .i64 0, .int .i64 0, .bool false]) ∧ Below w.heap.size w w' := by
  rw [Bool.and_eq_true] at q
  exact rends_tt k dr dc t n a b most h1 h2 a1 a2 b1 b2 h3 h4 w q.1 q.2
set_option maxHeartbeats 2000000 in
set_option maxRecDepth 100000 in
theorem double_1tt (dr dc t n : Int) (nd : Nd) (a : Option Addr) (len cap : Nat) (w : World) (hr : mayB nd.ref.row nd.ref.col = true) (hs : mayB nd.to.row nd.to.col = true) (ho : mayB (rfM dr dc nd.ref).row (rfM dr dc nd.ref).col = true) (ho2 : mayB (rfM dr dc nd.to).row (rfM dr dc nd.to).col = true) : Calls Try.prog 46 #[mvV 1 dr dc t n, exV nd (.slice a len cap)] w fun e w' => e = .returned (exV { nd with ref := rfM dr dc nd.ref, to := rfM dr dc nd.to } (.slice a len cap)) ∧ Below w.heap.size w w' := by
  have HO := hide (ron_any (rfM dr dc nd.ref))
  rw [ho] at HO
  clear ho
  have HO2 := hide (ron_any (rfM dr dc nd.to))
  rw [ho2] at HO2
  clear ho2
  have HR := hide (rref_any 1 dr dc t n nd.ref hr)
  have HR2 := hide (rref_any 1 dr dc t n nd.to hs)
  generalize rfM dr dc nd.ref = r1 at *
  generalize rfM dr dc nd.to = r2 at *
  have MB0 := hide (((Blk.new w #[.int .i64 1, .int .i64 dr, .int .i64 dc, .int .i64 t, .int .i64 n] 64).alloc (exO nd (.slice a len cap))).alloc (exO nd0 (.slice none 0 0)))
  have NB0 := hide ((Blk.new1 w (.cells #[.int .i64 1, .int .i64 dr, .int .i64 dc, .int .i64 t, .int .i64 n] 64) (exC nd (.slice a len cap)) 37).alloc (exO nd0 (.slice none 0 0)))
  have RB0 := hide (Blk.new2 w (.cells #[.int .i64 1, .int .i64 dr, .int .i64 dc, .int .i64 t, .int .i64 n] 64) (exO nd (.slice a len cap)) (exC nd0 (.slice none 0 0)) 37)
  have B0 := hide (step (step (step (Below.refl w.heap.size w) (.cells #[.int .i64 1, .int .i64 dr, .int .i64 dc, .int .i64 t, .int .i64 n] 64)) (exO nd (.slice a len cap))) (exO nd0 (.slice none 0 0)))
  obtain ⟨w0, hw0⟩ : ∃ w0, ((w.alloc (.cells #[.int .i64 1, .int .i64 dr, .int .i64 dc, .int .i64 t, .int .i64 n] 64)).alloc (exO nd (.slice a len cap))).alloc (.cells #[.int .i64 0, .int .i64 0, .int .i64 0, .string { data := #[] }, .int .i64 0, .int .i64 0, .bool false, .bool false, .int .i64 0, .int .i64 0, .bool false, .bool false, .int .i64 0, .slice none 0 0] 37) = w0 := ⟨_, rfl⟩
  replace MB0 : Hid (Blk w0 w.heap.size #[.int .i64 1, .int .i64 dr, .int .i64 dc, .int .i64 t, .int .i64 n] 64) := by rw [← hw0]; exact MB0
  replace NB0 : Hid (Blk w0 (w.heap.size + 1) (exC nd (.slice a len cap)) 37) := by rw [← hw0]; exact NB0
  replace RB0 : Hid (Blk w0 (w.heap.size + 1 + 1) (exC nd0 (.slice none 0 0)) 37) := by rw [← hw0]; exact RB0
  replace B0 : Hid (Below w.heap.size w w0) := by rw [← hw0]; exact B0
  have m0 : w0.cell? ⟨w.heap.size, 0, none⟩ = some (.int .i64 1) := MB0.out.at' 0
  have m1 : w0.cell? ⟨w.heap.size, 1, none⟩ = some (.int .i64 dr) := MB0.out.at' 1
  have m2 : w0.cell? ⟨w.heap.size, 2, none⟩ = some (.int .i64 dc) := MB0.out.at' 2
  have m3 : w0.cell? ⟨w.heap.size, 3, none⟩ = some (.int .i64 t) := MB0.out.at' 3
  have m4 : w0.cell? ⟨w.heap.size, 4, none⟩ = some (.int .i64 n) := MB0.out.at' 4
  obtain ⟨z0, z1, z2, z3, z4, z5, z6, z7, z8, z9, z10, z11, z12, z13⟩ := NB0.out.c14
  try dsimp only at z0 z1 z2 z3 z4 z5 z6 z7 z8 z9 z10 z11 z12 z13
  go_enter Try.func46, Try.ntmps46
  go_wp2_with fail
  clear hw0
  refine (HR.out w0).mono ?_
  rintro e w1 ⟨rfl, hb⟩
  have B1 := hide (next B0.out hb)
  have MB1 := hide (MB0.out.keep hb)
  have NB1 := hide (NB0.out.keep hb)
  have RB1 := hide (RB0.out.keep hb)
  clear hb
  clear m0 m1 m2 m3 m4 z0 z1 z2 z3 z4 z5 z6 z7 z8 z9 z10 z11 z12 z13
  have m0 : w1.cell? ⟨w.heap.size, 0, none⟩ = some (.int .i64 1) := MB1.out.at' 0
  have m1 : w1.cell? ⟨w.heap.size, 1, none⟩ = some (.int .i64 dr) := MB1.out.at' 1
  have m2 : w1.cell? ⟨w.heap.size, 2, none⟩ = some (.int .i64 dc) := MB1.out.at' 2
  have m3 : w1.cell? ⟨w.heap.size, 3, none⟩ = some (.int .i64 t) := MB1.out.at' 3
  have m4 : w1.cell? ⟨w.heap.size, 4, none⟩ = some (.int .i64 n) := MB1.out.at' 4
  obtain ⟨z0, z1, z2, z3, z4, z5, z6, z7, z8, z9, z10, z11, z12, z13⟩ := NB1.out.c14
  try dsimp only at z0 z1 z2 z3 z4 z5 z6 z7 z8 z9 z10 z11 z12 z13
  have th := NB1.out.thr (j := 4) (by omega)
  go_wp2_with (refine wpList_putR (b := w.heap.size + 1) (j := 4) (r := r1) rfl _ _ rfl rfl rfl (by with_reducible exact th) ?_; obtain ⟨w2, hw2⟩ : ∃ w2, w2 = putR w1 (w.heap.size + 1) 4 r1 := ⟨_, rfl⟩; have B2 : Hid (Below w.heap.size w w2) := hide (by rw [hw2]; exact below_putR B1.out (by omega) 4 r1); have MB2 : Hid (Blk w2 w.heap.size #[.int .i64 1, .int .i64 dr, .int .i64 dc, .int .i64 t, .int .i64 n] 64) := hide (by rw [hw2]; exact MB1.out.putO (by omega)); have NB2 : Hid (Blk w2 (w.heap.size + 1) (exC { nd with ref := r1 } (.slice a len cap)) 37) := hide (by rw [hw2]; exact NB1.out.putR4 r1); have RB2 : Hid (Blk w2 (w.heap.size + 1 + 1) (exC nd0 (.slice none 0 0)) 37) := hide (by rw [hw2]; exact RB1.out.putO (by omega)); rw [← hw2]; clear hw2 th m0 m1 m2 m3 m4 z0 z1 z2 z3 z4 z5 z6 z7 z8 z9 z10 z11 z12 z13; have m0 : w2.cell? ⟨w.heap.size, 0, none⟩ = some (.int .i64 1) := MB2.out.at' 0; have m1 : w2.cell? ⟨w.heap.size, 1, none⟩ = some (.int .i64 dr) := MB2.out.at' 1; have m2 : w2.cell? ⟨w.heap.size, 2, none⟩ = some (.int .i64 dc) := MB2.out.at' 2; have m3 : w2.cell? ⟨w.heap.size, 3, none⟩ = some (.int .i64 t) := MB2.out.at' 3; have m4 : w2.cell? ⟨w.heap.size, 4, none⟩ = some (.int .i64 n) := MB2.out.at' 4; obtain ⟨z0, z1, z2, z3, z4, z5, z6, z7, z8, z9, z10, z11, z12, z13⟩ := NB2.out.c14; dsimp only at z0 z1 z2 z3 z4 z5 z6 z7 z8 z9 z10 z11 z12 z13)
  refine (HR2.out w2).mono ?_
  rintro e w3 ⟨rfl, hb⟩
  have B3 := hide (next B2.out hb)
  have MB3 := hide (MB2.out.keep hb)
  have NB3 := hide (NB2.out.keep hb)
  have RB3 := hide (RB2.out.keep hb)
  clear hb
  clear m0 m1 m2 m3 m4 z0 z1 z2 z3 z4 z5 z6 z7 z8 z9 z10 z11 z12 z13
  have m0 : w3.cell? ⟨w.heap.size, 0, none⟩ = some (.int .i64 1) := MB3.out.at' 0
  have m1 : w3.cell? ⟨w.heap.size, 1, none⟩ = some (.int .i64 dr) := MB3.out.at' 1
  have m2 : w3.cell? ⟨w.heap.size, 2, none⟩ = some (.int .i64 dc) := MB3.out.at' 2
  have m3 : w3.cell? ⟨w.heap.size, 3, none⟩ = some (.int .i64 t) := MB3.out.at' 3
  have m4 : w3.cell? ⟨w.heap.size, 4, none⟩ = some (.int .i64 n) := MB3.out.at' 4
  obtain ⟨z0, z1, z2, z3, z4, z5, z6, z7, z8, z9, z10, z11, z12, z13⟩ := NB3.out.c14
  try dsimp only at z0 z1 z2 z3 z4 z5 z6 z7 z8 z9 z10 z11 z12 z13
  have th := NB3.out.thr (j := 8) (by omega)
  go_wp2_with (refine wpList_putR (b := w.heap.size + 1) (j := 8) (r := r2) rfl _ _ rfl rfl rfl (by with_reducible exact th) ?_; obtain ⟨w4, hw4⟩ : ∃ w4, w4 = putR w3 (w.heap.size + 1) 8 r2 := ⟨_, rfl⟩; have B4 : Hid (Below w.heap.size w w4) := hide (by rw [hw4]; exact below_putR B3.out (by omega) 8 r2); have MB4 : Hid (Blk w4 w.heap.size #[.int .i64 1, .int .i64 dr, .int .i64 dc, .int .i64 t, .int .i64 n] 64) := hide (by rw [hw4]; exact MB3.out.putO (by omega)); have NB4 : Hid (Blk w4 (w.heap.size + 1) (exC { nd with ref := r1, to := r2 } (.slice a len cap)) 37) := hide (by rw [hw4]; exact NB3.out.putR8 r2); have RB4 : Hid (Blk w4 (w.heap.size + 1 + 1) (exC nd0 (.slice none 0 0)) 37) := hide (by rw [hw4]; exact RB3.out.putO (by omega)); rw [← hw4]; clear hw4 th m0 m1 m2 m3 m4 z0 z1 z2 z3 z4 z5 z6 z7 z8 z9 z10 z11 z12 z13; obtain ⟨-, -, -, -, y4, y5, y6, y7, y8, y9, y10, y11, -, -⟩ := NB4.out.c14; dsimp only at y4 y5 y6 y7 y8 y9 y10 y11)
  refine (HO.out w4).mono ?_
  rintro e w5 ⟨rfl, hb⟩
  have B5 := hide (next B4.out hb)
  have MB5 := hide (MB4.out.keep hb)
  have NB5 := hide (NB4.out.keep hb)
  have RB5 := hide (RB4.out.keep hb)
  clear hb
  clear y4 y5 y6 y7 y8 y9 y10 y11
  obtain ⟨-, -, -, -, y4, y5, y6, y7, y8, y9, y10, y11, -, -⟩ := NB5.out.c14
  dsimp only at y4 y5 y6 y7 y8 y9 y10 y11
  go_wp2_with fail
  refine (HO2.out w5).mono ?_
  rintro e w6 ⟨rfl, hb⟩
  have B6 := hide (next B5.out hb)
  have MB6 := hide (MB5.out.keep hb)
  have NB6 := hide (NB5.out.keep hb)
  have RB6 := hide (RB5.out.keep hb)
  clear hb
  clear y4 y5 y6 y7 y8 y9 y10 y11
  go_wp2_with (first
    | (refine wpList_load_blk rfl 37 _ rfl _ rfl _ (by with_reducible exact NB6.out) _ Try.underlying37 rfl (exC_info _ _) ?_)
    | (have hst := RB6.out; refine wpList_store_row rfl 37 _ _ rfl _ (exC { nd with ref := r1, to := r2 } (.slice a len cap)) rfl rfl 37 _ hst (exC_info _ _) (by rfl) (exC_one _ _ _ _) ?_))
  have F3 := RB6.out.setRow (cs := exC { nd with ref := r1, to := r2 } (.slice a len cap))
  refine bodyPost_ret (v := exV { nd with ref := r1, to := r2 } (.slice a len cap)) (results_cell_row Try.results46 _ _ (w.heap.size + 1 + 1) 37 (exC { nd with ref := r1, to := r2 } (.slice a len cap)) (0, 0) _ rfl F3 Try.underlying37 rfl (exC_info _ _)) rfl ?_
  exact ⟨rfl, below_setRow B6.out (by omega) _⟩
set_option maxHeartbeats 2000000 in
set_option maxRecDepth 100000 in
theorem double_1tf (dr dc t n : Int) (nd : Nd) (a : Option Addr) (len cap : Nat) (w : World) (hr : mayB nd.ref.row nd.ref.col = true) (hs : mayB nd.to.row nd.to.col = true) (ho : mayB (rfM dr dc nd.ref).row (rfM dr dc nd.ref).col = true) (ho2 : mayB (rfM dr dc nd.to).row (rfM dr dc nd.to).col = false) : Calls Try.prog 46 #[mvV 1 dr dc t n, exV nd (.slice a len cap)] w fun e w' => e = .returned (exV lostN (.slice none 0 0)) ∧ Below w.heap.size w w' := by
  have HO := hide (ron_any (rfM dr dc nd.ref))
  rw [ho] at HO
  clear ho
  have HO2 := hide (ron_any (rfM dr dc nd.to))
  rw [ho2] at HO2
  clear ho2
  have HR := hide (rref_any 1 dr dc t n nd.ref hr)
  have HR2 := hide (rref_any 1 dr dc t n nd.to hs)
  generalize rfM dr dc nd.ref = r1 at *
  generalize rfM dr dc nd.to = r2 at *
  have MB0 := hide (((Blk.new w #[.int .i64 1, .int .i64 dr, .int .i64 dc, .int .i64 t, .int .i64 n] 64).alloc (exO nd (.slice a len cap))).alloc (exO nd0 (.slice none 0 0)))
  have NB0 := hide ((Blk.new1 w (.cells #[.int .i64 1, .int .i64 dr, .int .i64 dc, .int .i64 t, .int .i64 n] 64) (exC nd (.slice a len cap)) 37).alloc (exO nd0 (.slice none 0 0)))
  have RB0 := hide (Blk.new2 w (.cells #[.int .i64 1, .int .i64 dr, .int .i64 dc, .int .i64 t, .int .i64 n] 64) (exO nd (.slice a len cap)) (exC nd0 (.slice none 0 0)) 37)
  have B0 := hide (step (step (step (Below.refl w.heap.size w) (.cells #[.int .i64 1, .int .i64 dr, .int .i64 dc, .int .i64 t, .int .i64 n] 64)) (exO nd (.slice a len cap))) (exO nd0 (.slice none 0 0)))
  obtain ⟨w0, hw0⟩ : ∃ w0, ((w.alloc (.cells #[.int .i64 1, .int .i64 dr, .int .i64 dc, .int .i64 t, .int .i64 n] 64)).alloc (exO nd (.slice a len cap))).alloc (.cells #[.int .i64 0, .int .i64 0, .int .i64 0, .string { data := #[] }, .int .i64 0, .int .i64 0, .bool false, .bool false, .int .i64 0, .int .i64 0, .bool false, .bool false, .int .i64 0, .slice none 0 0] 37) = w0 := ⟨_, rfl⟩
  replace MB0 : Hid (Blk w0 w.heap.size #[.int .i64 1, .int .i64 dr, .int .i64 dc, .int .i64 t, .int .i64 n] 64) := by rw [← hw0]; exact MB0
  replace NB0 : Hid (Blk w0 (w.heap.size + 1) (exC nd (.slice a len cap)) 37) := by rw [← hw0]; exact NB0
  replace RB0 : Hid (Blk w0 (w.heap.size + 1 + 1) (exC nd0 (.slice none 0 0)) 37) := by rw [← hw0]; exact RB0
  replace B0 : Hid (Below w.heap.size w w0) := by rw [← hw0]; exact B0
  have m0 : w0.cell? ⟨w.heap.size, 0, none⟩ = some (.int .i64 1) := MB0.out.at' 0
  have m1 : w0.cell? ⟨w.heap.size, 1, none⟩ = some (.int .i64 dr) := MB0.out.at' 1
  have m2 : w0.cell? ⟨w.heap.size, 2, none⟩ = some (.int .i64 dc) := MB0.out.at' 2
  have m3 : w0.cell? ⟨w.heap.size, 3, none⟩ = some (.int .i64 t) := MB0.out.at' 3
  have m4 : w0.cell? ⟨w.heap.size, 4, none⟩ = some (.int .i64 n) := MB0.out.at' 4
  obtain ⟨z0, z1, z2, z3, z4, z5, z6, z7, z8, z9, z10, z11, z12, z13⟩ := NB0.out.c14
  try dsimp only at z0 z1 z2 z3 z4 z5 z6 z7 z8 z9 z10 z11 z12 z13
  go_enter Try.func46, Try.ntmps46
  go_wp2_with fail
  clear hw0
  refine (HR.out w0).mono ?_
  rintro e w1 ⟨rfl, hb⟩
  have B1 := hide (next B0.out hb)
  have MB1 := hide (MB0.out.keep hb)
  have NB1 := hide (NB0.out.keep hb)
  have RB1 := hide (RB0.out.keep hb)
  clear hb
  clear m0 m1 m2 m3 m4 z0 z1 z2 z3 z4 z5 z6 z7 z8 z9 z10 z11 z12 z13
  have m0 : w1.cell? ⟨w.heap.size, 0, none⟩ = some (.int .i64 1) := MB1.out.at' 0
  have m1 : w1.cell? ⟨w.heap.size, 1, none⟩ = some (.int .i64 dr) := MB1.out.at' 1
  have m2 : w1.cell? ⟨w.heap.size, 2, none⟩ = some (.int .i64 dc) := MB1.out.at' 2
  have m3 : w1.cell? ⟨w.heap.size, 3, none⟩ = some (.int .i64 t) := MB1.out.at' 3
  have m4 : w1.cell? ⟨w.heap.size, 4, none⟩ = some (.int .i64 n) := MB1.out.at' 4
  obtain ⟨z0, z1, z2, z3, z4, z5, z6, z7, z8, z9, z10, z11, z12, z13⟩ := NB1.out.c14
  try dsimp only at z0 z1 z2 z3 z4 z5 z6 z7 z8 z9 z10 z11 z12 z13
  have th := NB1.out.thr (j := 4) (by omega)
  go_wp2_with (refine wpList_putR (b := w.heap.size + 1) (j := 4) (r := r1) rfl _ _ rfl rfl rfl (by with_reducible exact th) ?_; obtain ⟨w2, hw2⟩ : ∃ w2, w2 = putR w1 (w.heap.size + 1) 4 r1 := ⟨_, rfl⟩; have B2 : Hid (Below w.heap.size w w2) := hide (by rw [hw2]; exact below_putR B1.out (by omega) 4 r1); have MB2 : Hid (Blk w2 w.heap.size #[.int .i64 1, .int .i64 dr, .int .i64 dc, .int .i64 t, .int .i64 n] 64) := hide (by rw [hw2]; exact MB1.out.putO (by omega)); have NB2 : Hid (Blk w2 (w.heap.size + 1) (exC { nd with ref := r1 } (.slice a len cap)) 37) := hide (by rw [hw2]; exact NB1.out.putR4 r1); have RB2 : Hid (Blk w2 (w.heap.size + 1 + 1) (exC nd0 (.slice none 0 0)) 37) := hide (by rw [hw2]; exact RB1.out.putO (by omega)); rw [← hw2]; clear hw2 th m0 m1 m2 m3 m4 z0 z1 z2 z3 z4 z5 z6 z7 z8 z9 z10 z11 z12 z13; have m0 : w2.cell? ⟨w.heap.size, 0, none⟩ = some (.int .i64 1) := MB2.out.at' 0; have m1 : w2.cell? ⟨w.heap.size, 1, none⟩ = some (.int .i64 dr) := MB2.out.at' 1; have m2 : w2.cell? ⟨w.heap.size, 2, none⟩ = some (.int .i64 dc) := MB2.out.at' 2; have m3 : w2.cell? ⟨w.heap.size, 3, none⟩ = some (.int .i64 t) := MB2.out.at' 3; have m4 : w2.cell? ⟨w.heap.size, 4, none⟩ = some (.int .i64 n) := MB2.out.at' 4; obtain ⟨z0, z1, z2, z3, z4, z5, z6, z7, z8, z9, z10, z11, z12, z13⟩ := NB2.out.c14; dsimp only at z0 z1 z2 z3 z4 z5 z6 z7 z8 z9 z10 z11 z12 z13)
  refine (HR2.out w2).mono ?_
  rintro e w3 ⟨rfl, hb⟩
  have B3 := hide (next B2.out hb)
  have MB3 := hide (MB2.out.keep hb)
  have NB3 := hide (NB2.out.keep hb)
  have RB3 := hide (RB2.out.keep hb)
  clear hb
  clear m0 m1 m2 m3 m4 z0 z1 z2 z3 z4 z5 z6 z7 z8 z9 z10 z11 z12 z13
  have m0 : w3.cell? ⟨w.heap.size, 0, none⟩ = some (.int .i64 1) := MB3.out.at' 0
  have m1 : w3.cell? ⟨w.heap.size, 1, none⟩ = some (.int .i64 dr) := MB3.out.at' 1
  have m2 : w3.cell? ⟨w.heap.size, 2, none⟩ = some (.int .i64 dc) := MB3.out.at' 2
  have m3 : w3.cell? ⟨w.heap.size, 3, none⟩ = some (.int .i64 t) := MB3.out.at' 3
  have m4 : w3.cell? ⟨w.heap.size, 4, none⟩ = some (.int .i64 n) := MB3.out.at' 4
  obtain ⟨z0, z1, z2, z3, z4, z5, z6, z7, z8, z9, z10, z11, z12, z13⟩ := NB3.out.c14
  try dsimp only at z0 z1 z2 z3 z4 z5 z6 z7 z8 z9 z10 z11 z12 z13
  have th := NB3.out.thr (j := 8) (by omega)
  go_wp2_with (refine wpList_putR (b := w.heap.size + 1) (j := 8) (r := r2) rfl _ _ rfl rfl rfl (by with_reducible exact th) ?_; obtain ⟨w4, hw4⟩ : ∃ w4, w4 = putR w3 (w.heap.size + 1) 8 r2 := ⟨_, rfl⟩; have B4 : Hid (Below w.heap.size w w4) := hide (by rw [hw4]; exact below_putR B3.out (by omega) 8 r2); have MB4 : Hid (Blk w4 w.heap.size #[.int .i64 1, .int .i64 dr, .int .i64 dc, .int .i64 t, .int .i64 n] 64) := hide (by rw [hw4]; exact MB3.out.putO (by omega)); have NB4 : Hid (Blk w4 (w.heap.size + 1) (exC { nd with ref := r1, to := r2 } (.slice a len cap)) 37) := hide (by rw [hw4]; exact NB3.out.putR8 r2); have RB4 : Hid (Blk w4 (w.heap.size + 1 + 1) (exC nd0 (.slice none 0 0)) 37) := hide (by rw [hw4]; exact RB3.out.putO (by omega)); rw [← hw4]; clear hw4 th m0 m1 m2 m3 m4 z0 z1 z2 z3 z4 z5 z6 z7 z8 z9 z10 z11 z12 z13; obtain ⟨-, -, -, -, y4, y5, y6, y7, y8, y9, y10, y11, -, -⟩ := NB4.out.c14; dsimp only at y4 y5 y6 y7 y8 y9 y10 y11)
  refine (HO.out w4).mono ?_
  rintro e w5 ⟨rfl, hb⟩
  have B5 := hide (next B4.out hb)
  have MB5 := hide (MB4.out.keep hb)
  have NB5 := hide (NB4.out.keep hb)
  have RB5 := hide (RB4.out.keep hb)
  clear hb
  clear y4 y5 y6 y7 y8 y9 y10 y11
  obtain ⟨-, -, -, -, y4, y5, y6, y7, y8, y9, y10, y11, -, -⟩ := NB5.out.c14
  dsimp only at y4 y5 y6 y7 y8 y9 y10 y11
  go_wp2_with fail
  refine (HO2.out w5).mono ?_
  rintro e w6 ⟨rfl, hb⟩
  have B6 := hide (next B5.out hb)
  have MB6 := hide (MB5.out.keep hb)
  have NB6 := hide (NB5.out.keep hb)
  have RB6 := hide (RB5.out.keep hb)
  clear hb
  clear y4 y5 y6 y7 y8 y9 y10 y11
  go_wp2_with fail
  refine (rlost_any w6).mono ?_
  rintro e w7 ⟨rfl, hb⟩
  have B7 := hide (next B6.out hb)
  have MB7 := hide (MB6.out.keep hb)
  have NB7 := hide (NB6.out.keep hb)
  have RB7 := hide (RB6.out.keep hb)
  clear hb
  go_wp2_with (have hst := RB7.out; refine wpList_store_row rfl 37 _ _ rfl _ (exC lostN (.slice none 0 0)) rfl rfl 37 _ hst (exC_info _ _) (by rfl) (exC_one _ _ _ _) ?_)
  have F3 := RB7.out.setRow (cs := exC lostN (.slice none 0 0))
  refine bodyPost_ret (v := exV lostN (.slice none 0 0)) (results_cell_row Try.results46 _ _ (w.heap.size + 1 + 1) 37 (exC lostN (.slice none 0 0)) (0, 0) _ rfl F3 Try.underlying37 rfl (exC_info _ _)) rfl ?_
  exact ⟨rfl, below_setRow B7.out (by omega) _⟩
set_option maxHeartbeats 2000000 in
set_option maxRecDepth 100000 in
theorem double_1f (dr dc t n : Int) (nd : Nd) (a : Option Addr) (len cap : Nat) (w : World) (hr : mayB nd.ref.row nd.ref.col = true) (hs : mayB nd.to.row nd.to.col = true) (ho : mayB (rfM dr dc nd.ref).row (rfM dr dc nd.ref).col = false) : Calls Try.prog 46 #[mvV 1 dr dc t n, exV nd (.slice a len cap)] w fun e w' => e = .returned (exV lostN (.slice none 0 0)) ∧ Below w.heap.size w w' := by
  have HO := hide (ron_any (rfM dr dc nd.ref))
  rw [ho] at HO
  clear ho
  have HR := hide (rref_any 1 dr dc t n nd.ref hr)
  have HR2 := hide (rref_any 1 dr dc t n nd.to hs)
  generalize rfM dr dc nd.ref = r1 at *
  generalize rfM dr dc nd.to = r2 at *
  have MB0 := hide (((Blk.new w #[.int .i64 1, .int .i64 dr, .int .i64 dc, .int .i64 t, .int .i64 n] 64).alloc (exO nd (.slice a len cap))).alloc (exO nd0 (.slice none 0 0)))
  have NB0 := hide ((Blk.new1 w (.cells #[.int .i64 1, .int .i64 dr, .int .i64 dc, .int .i64 t, .int .i64 n] 64) (exC nd (.slice a len cap)) 37).alloc (exO nd0 (.slice none 0 0)))
  have RB0 := hide (Blk.new2 w (.cells #[.int .i64 1, .int .i64 dr, .int .i64 dc, .int .i64 t, .int .i64 n] 64) (exO nd (.slice a len cap)) (exC nd0 (.slice none 0 0)) 37)
  have B0 := hide (step (step (step (Below.refl w.heap.size w) (.cells #[.int .i64 1, .int .i64 dr, .int .i64 dc, .int .i64 t, .int .i64 n] 64)) (exO nd (.slice a len cap))) (exO nd0 (.slice none 0 0)))
  obtain ⟨w0, hw0⟩ : ∃ w0, ((w.alloc (.cells #[.int .i64 1, .int .i64 dr, .int .i64 dc, .int .i64 t, .int .i64 n] 64)).alloc (exO nd (.slice a len cap))).alloc (.cells #[.int .i64 0, .int .i64 0, .int .i64 0, .string { data := #[] }, .int .i64 0, .int .i64 0, .bool false, .bool false, .int .i64 0, .int .i64 0, .bool false, .bool false, .int .i64 0, .slice none 0 0] 37) = w0 := ⟨_, rfl⟩
  replace MB0 : Hid (Blk w0 w.heap.size #[.int .i64 1, .int .i64 dr, .int .i64 dc, .int .i64 t, .int .i64 n] 64) := by rw [← hw0]; exact MB0
  replace NB0 : Hid (Blk w0 (w.heap.size + 1) (exC nd (.slice a len cap)) 37) := by rw [← hw0]; exact NB0
  replace RB0 : Hid (Blk w0 (w.heap.size + 1 + 1) (exC nd0 (.slice none 0 0)) 37) := by rw [← hw0]; exact RB0
  replace B0 : Hid (Below w.heap.size w w0) := by rw [← hw0]; exact B0
  have m0 : w0.cell? ⟨w.heap.size, 0, none⟩ = some (.int .i64 1) := MB0.out.at' 0
  have m1 : w0.cell? ⟨w.heap.size, 1, none⟩ = some (.int .i64 dr) := MB0.out.at' 1
  have m2 : w0.cell? ⟨w.heap.size, 2, none⟩ = some (.int .i64 dc) := MB0.out.at' 2
  have m3 : w0.cell? ⟨w.heap.size, 3, none⟩ = some (.int .i64 t) := MB0.out.at' 3
  have m4 : w0.cell? ⟨w.heap.size, 4, none⟩ = some (.int .i64 n) := MB0.out.at' 4
  obtain ⟨z0, z1, z2, z3, z4, z5, z6, z7, z8, z9, z10, z11, z12, z13⟩ := NB0.out.c14
  try dsimp only at z0 z1 z2 z3 z4 z5 z6 z7 z8 z9 z10 z11 z12 z13
  go_enter Try.func46, Try.ntmps46
  go_wp2_with fail
  clear hw0
  refine (HR.out w0).mono ?_
  rintro e w1 ⟨rfl, hb⟩
  have B1 := hide (next B0.out hb)
  have MB1 := hide (MB0.out.keep hb)
  have NB1 := hide (NB0.out.keep hb)
  have RB1 := hide (RB0.out.keep hb)
  clear hb
  clear m0 m1 m2 m3 m4 z0 z1 z2 z3 z4 z5 z6 z7 z8 z9 z10 z11 z12 z13
  have m0 : w1.cell? ⟨w.heap.size, 0, none⟩ = some (.int .i64 1) := MB1.out.at' 0
  have m1 : w1.cell? ⟨w.heap.size, 1, none⟩ = some (.int .i64 dr) := MB1.out.at' 1
  have m2 : w1.cell? ⟨w.heap.size, 2, none⟩ = some (.int .i64 dc) := MB1.out.at' 2
  have m3 : w1.cell? ⟨w.heap.size, 3, none⟩ = some (.int .i64 t) := MB1.out.at' 3
  have m4 : w1.cell? ⟨w.heap.size, 4, none⟩ = some (.int .i64 n) := MB1.out.at' 4
  obtain ⟨z0, z1, z2, z3, z4, z5, z6, z7, z8, z9, z10, z11, z12, z13⟩ := NB1.out.c14
  try dsimp only at z0 z1 z2 z3 z4 z5 z6 z7 z8 z9 z10 z11 z12 z13
  have th := NB1.out.thr (j := 4) (by omega)
  go_wp2_with (refine wpList_putR (b := w.heap.size + 1) (j := 4) (r := r1) rfl _ _ rfl rfl rfl (by with_reducible exact th) ?_; obtain ⟨w2, hw2⟩ : ∃ w2, w2 = putR w1 (w.heap.size + 1) 4 r1 := ⟨_, rfl⟩; have B2 : Hid (Below w.heap.size w w2) := hide (by rw [hw2]; exact below_putR B1.out (by omega) 4 r1); have MB2 : Hid (Blk w2 w.heap.size #[.int .i64 1, .int .i64 dr, .int .i64 dc, .int .i64 t, .int .i64 n] 64) := hide (by rw [hw2]; exact MB1.out.putO (by omega)); have NB2 : Hid (Blk w2 (w.heap.size + 1) (exC { nd with ref := r1 } (.slice a len cap)) 37) := hide (by rw [hw2]; exact NB1.out.putR4 r1); have RB2 : Hid (Blk w2 (w.heap.size + 1 + 1) (exC nd0 (.slice none 0 0)) 37) := hide (by rw [hw2]; exact RB1.out.putO (by omega)); rw [← hw2]; clear hw2 th m0 m1 m2 m3 m4 z0 z1 z2 z3 z4 z5 z6 z7 z8 z9 z10 z11 z12 z13; have m0 : w2.cell? ⟨w.heap.size, 0, none⟩ = some (.int .i64 1) := MB2.out.at' 0; have m1 : w2.cell? ⟨w.heap.size, 1, none⟩ = some (.int .i64 dr) := MB2.out.at' 1; have m2 : w2.cell? ⟨w.heap.size, 2, none⟩ = some (.int .i64 dc) := MB2.out.at' 2; have m3 : w2.cell? ⟨w.heap.size, 3, none⟩ = some (.int .i64 t) := MB2.out.at' 3; have m4 : w2.cell? ⟨w.heap.size, 4, none⟩ = some (.int .i64 n) := MB2.out.at' 4; obtain ⟨z0, z1, z2, z3, z4, z5, z6, z7, z8, z9, z10, z11, z12, z13⟩ := NB2.out.c14; dsimp only at z0 z1 z2 z3 z4 z5 z6 z7 z8 z9 z10 z11 z12 z13)
  refine (HR2.out w2).mono ?_
  rintro e w3 ⟨rfl, hb⟩
  have B3 := hide (next B2.out hb)
  have MB3 := hide (MB2.out.keep hb)
  have NB3 := hide (NB2.out.keep hb)
  have RB3 := hide (RB2.out.keep hb)
  clear hb
  clear m0 m1 m2 m3 m4 z0 z1 z2 z3 z4 z5 z6 z7 z8 z9 z10 z11 z12 z13
  have m0 : w3.cell? ⟨w.heap.size, 0, none⟩ = some (.int .i64 1) := MB3.out.at' 0
  have m1 : w3.cell? ⟨w.heap.size, 1, none⟩ = some (.int .i64 dr) := MB3.out.at' 1
  have m2 : w3.cell? ⟨w.heap.size, 2, none⟩ = some (.int .i64 dc) := MB3.out.at' 2
  have m3 : w3.cell? ⟨w.heap.size, 3, none⟩ = some (.int .i64 t) := MB3.out.at' 3
  have m4 : w3.cell? ⟨w.heap.size, 4, none⟩ = some (.int .i64 n) := MB3.out.at' 4
  obtain ⟨z0, z1, z2, z3, z4, z5, z6, z7, z8, z9, z10, z11, z12, z13⟩ := NB3.out.c14
  try dsimp only at z0 z1 z2 z3 z4 z5 z6 z7 z8 z9 z10 z11 z12 z13
  have th := NB3.out.thr (j := 8) (by omega)
  go_wp2_with (refine wpList_putR (b := w.heap.size + 1) (j := 8) (r := r2) rfl _ _ rfl rfl rfl (by with_reducible exact th) ?_; obtain ⟨w4, hw4⟩ : ∃ w4, w4 = putR w3 (w.heap.size + 1) 8 r2 := ⟨_, rfl⟩; have B4 : Hid (Below w.heap.size w w4) := hide (by rw [hw4]; exact below_putR B3.out (by omega) 8 r2); have MB4 : Hid (Blk w4 w.heap.size #[.int .i64 1, .int .i64 dr, .int .i64 dc, .int .i64 t, .int .i64 n] 64) := hide (by rw [hw4]; exact MB3.out.putO (by omega)); have NB4 : Hid (Blk w4 (w.heap.size + 1) (exC { nd with ref := r1, to := r2 } (.slice a len cap)) 37) := hide (by rw [hw4]; exact NB3.out.putR8 r2); have RB4 : Hid (Blk w4 (w.heap.size + 1 + 1) (exC nd0 (.slice none 0 0)) 37) := hide (by rw [hw4]; exact RB3.out.putO (by omega)); rw [← hw4]; clear hw4 th m0 m1 m2 m3 m4 z0 z1 z2 z3 z4 z5 z6 z7 z8 z9 z10 z11 z12 z13; obtain ⟨-, -, -, -, y4, y5, y6, y7, y8, y9, y10, y11, -, -⟩ := NB4.out.c14; dsimp only at y4 y5 y6 y7 y8 y9 y10 y11)
  refine (HO.out w4).mono ?_
  rintro e w5 ⟨rfl, hb⟩
  have B5 := hide (next B4.out hb)
  have MB5 := hide (MB4.out.keep hb)
  have NB5 := hide (NB4.out.keep hb)
  have RB5 := hide (RB4.out.keep hb)
  clear hb
  clear y4 y5 y6 y7 y8 y9 y10 y11
  go_wp2_with fail
  refine (rlost_any w5).mono ?_
  rintro e w6 ⟨rfl, hb⟩
  have B6 := hide (next B5.out hb)
  have MB6 := hide (MB5.out.keep hb)
  have NB6 := hide (NB5.out.keep hb)
  have RB6 := hide (RB5.out.keep hb)
  clear hb
  go_wp2_with (have hst := RB6.out; refine wpList_store_row rfl 37 _ _ rfl _ (exC lostN (.slice none 0 0)) rfl rfl 37 _ hst (exC_info _ _) (by rfl) (exC_one _ _ _ _) ?_)
  have F3 := RB6.out.setRow (cs := exC lostN (.slice none 0 0))
  refine bodyPost_ret (v := exV lostN (.slice none 0 0)) (results_cell_row Try.results46 _ _ (w.heap.size + 1 + 1) 37 (exC lostN (.slice none 0 0)) (0, 0) _ rfl F3 Try.underlying37 rfl (exC_info _ _)) rfl ?_
  exact ⟨rfl, below_setRow B6.out (by omega) _⟩
set_option maxHeartbeats 2000000 in
set_option maxRecDepth 100000 in
theorem double_2o (dr dc t n : Int) (nd : Nd) (a : Option Addr) (len cap : Nat) (w : World) (hr : mayB nd.ref.row nd.ref.col = true) (hs : mayB nd.to.row nd.to.col = true) (t0 : 0 ≤ t) (t1 : t < 65536) (hq : (outR t n nd.ref.row 65536 && outR t n nd.to.row 65536) = true) : Calls Try.prog 46 #[mvV 2 dr dc t n, exV nd (.slice a len cap)] w fun e w' => e = .returned (exV lostN (.slice none 0 0)) ∧ Below w.heap.size w w' := by
  have hr := mayB_iff.1 hr
  have hs := mayB_iff.1 hs
  have HE := hide (rends_yes 2 dr dc t n nd.ref.row nd.to.row 65536 t0 t1 (by omega) (by omega) (by omega) (by omega) (by omega) (by omega) hq)
  clear hr hs hq
  have MB0 := hide (((Blk.new w #[.int .i64 2, .int .i64 dr, .int .i64 dc, .int .i64 t, .int .i64 n] 64).alloc (exO nd (.slice a len cap))).alloc (exO nd0 (.slice none 0 0)))
  have NB0 := hide ((Blk.new1 w (.cells #[.int .i64 2, .int .i64 dr, .int .i64 dc, .int .i64 t, .int .i64 n] 64) (exC nd (.slice a len cap)) 37).alloc (exO nd0 (.slice none 0 0)))
  have RB0 := hide (Blk.new2 w (.cells #[.int .i64 2, .int .i64 dr, .int .i64 dc, .int .i64 t, .int .i64 n] 64) (exO nd (.slice a len cap)) (exC nd0 (.slice none 0 0)) 37)
  have B0 := hide (step (step (step (Below.refl w.heap.size w) (.cells #[.int .i64 2, .int .i64 dr, .int .i64 dc, .int .i64 t, .int .i64 n] 64)) (exO nd (.slice a len cap))) (exO nd0 (.slice none 0 0)))
  obtain ⟨w0, hw0⟩ : ∃ w0, ((w.alloc (.cells #[.int .i64 2, .int .i64 dr, .int .i64 dc, .int .i64 t, .int .i64 n] 64)).alloc (exO nd (.slice a len cap))).alloc (.cells #[.int .i64 0, .int .i64 0, .int .i64 0, .string { data := #[] }, .int .i64 0, .int .i64 0, .bool false, .bool false, .int .i64 0, .int .i64 0, .bool false, .bool false, .int .i64 0, .slice none 0 0] 37) = w0 := ⟨_, rfl⟩
  replace MB0 : Hid (Blk w0 w.heap.size #[.int .i64 2, .int .i64 dr, .int .i64 dc, .int .i64 t, .int .i64 n] 64) := by rw [← hw0]; exact MB0
  replace NB0 : Hid (Blk w0 (w.heap.size + 1) (exC nd (.slice a len cap)) 37) := by rw [← hw0]; exact NB0
  replace RB0 : Hid (Blk w0 (w.heap.size + 1 + 1) (exC nd0 (.slice none 0 0)) 37) := by rw [← hw0]; exact RB0
  replace B0 : Hid (Below w.heap.size w w0) := by rw [← hw0]; exact B0
  have m0 : w0.cell? ⟨w.heap.size, 0, none⟩ = some (.int .i64 2) := MB0.out.at' 0
  have m1 : w0.cell? ⟨w.heap.size, 1, none⟩ = some (.int .i64 dr) := MB0.out.at' 1
  have m2 : w0.cell? ⟨w.heap.size, 2, none⟩ = some (.int .i64 dc) := MB0.out.at' 2
  have m3 : w0.cell? ⟨w.heap.size, 3, none⟩ = some (.int .i64 t) := MB0.out.at' 3
  have m4 : w0.cell? ⟨w.heap.size, 4, none⟩ = some (.int .i64 n) := MB0.out.at' 4
  obtain ⟨z0, z1, z2, z3, z4, z5, z6, z7, z8, z9, z10, z11, z12, z13⟩ := NB0.out.c14
  try dsimp only at z0 z1 z2 z3 z4 z5 z6 z7 z8 z9 z10 z11 z12 z13
  go_enter Try.func46, Try.ntmps46
  go_wp2_with fail
  clear hw0
  refine (HE.out w0).mono ?_
  rintro e w1 ⟨rfl, hb⟩
  have B1 := hide (next B0.out hb)
  have MB1 := hide (MB0.out.keep hb)
  have NB1 := hide (NB0.out.keep hb)
  have RB1 := hide (RB0.out.keep hb)
  clear hb
  clear m0 m1 m2 m3 m4 z0 z1 z2 z3 z4 z5 z6 z7 z8 z9 z10 z11 z12 z13
  have m0 : w1.cell? ⟨w.heap.size, 0, none⟩ = some (.int .i64 2) := MB1.out.at' 0
  have m1 : w1.cell? ⟨w.heap.size, 1, none⟩ = some (.int .i64 dr) := MB1.out.at' 1
  have m2 : w1.cell? ⟨w.heap.size, 2, none⟩ = some (.int .i64 dc) := MB1.out.at' 2
  have m3 : w1.cell? ⟨w.heap.size, 3, none⟩ = some (.int .i64 t) := MB1.out.at' 3
  have m4 : w1.cell? ⟨w.heap.size, 4, none⟩ = some (.int .i64 n) := MB1.out.at' 4
  obtain ⟨z0, z1, z2, z3, z4, z5, z6, z7, z8, z9, z10, z11, z12, z13⟩ := NB1.out.c14
  try dsimp only at z0 z1 z2 z3 z4 z5 z6 z7 z8 z9 z10 z11 z12 z13
  have f4 := NB1.out.fr 4
  have f8 := NB1.out.fr 8
  go_wp2_with fail
  have B2 : Hid (Below w.heap.size w ((w1.setCell ⟨w.heap.size + 1, 4, none⟩ (.int .i64 0)).setCell ⟨w.heap.size + 1, 8, none⟩ (.int .i64 0))) := hide ((B1.out.setCell (p := ⟨w.heap.size + 1, 4, none⟩) (by simp) _).setCell (p := ⟨w.heap.size + 1, 8, none⟩) (by simp) _)
  have MB2 : Hid (Blk ((w1.setCell ⟨w.heap.size + 1, 4, none⟩ (.int .i64 0)).setCell ⟨w.heap.size + 1, 8, none⟩ (.int .i64 0)) w.heap.size #[.int .i64 2, .int .i64 dr, .int .i64 dc, .int .i64 t, .int .i64 n] 64) := hide (blk_other (blk_other MB1.out (by omega)) (by omega))
  have NB2 : Hid (Blk ((w1.setCell ⟨w.heap.size + 1, 4, none⟩ (.int .i64 0)).setCell ⟨w.heap.size + 1, 8, none⟩ (.int .i64 0)) (w.heap.size + 1) (exC { nd with ref := ⟨0, nd.ref.col, nd.ref.pr, nd.ref.pc⟩, to := ⟨0, nd.to.col, nd.to.pr, nd.to.pc⟩ } (.slice a len cap)) 37) := hide ((NB1.out.set 4 (.int .i64 0)).set 8 (.int .i64 0))
  have RB2 : Hid (Blk ((w1.setCell ⟨w.heap.size + 1, 4, none⟩ (.int .i64 0)).setCell ⟨w.heap.size + 1, 8, none⟩ (.int .i64 0)) (w.heap.size + 1 + 1) (exC nd0 (.slice none 0 0)) 37) := hide (blk_other (blk_other RB1.out (by omega)) (by omega))
  obtain ⟨w2, hw2⟩ : ∃ w2, ((w1.setCell ⟨w.heap.size + 1, 4, none⟩ (.int .i64 0)).setCell ⟨w.heap.size + 1, 8, none⟩ (.int .i64 0)) = w2 := ⟨_, rfl⟩
  rw [hw2] at B2 MB2 NB2 RB2 ⊢
  clear hw2
  clear f4 f8
  clear m0 m1 m2 m3 m4 z0 z1 z2 z3 z4 z5 z6 z7 z8 z9 z10 z11 z12 z13
  refine (rlost_any w2).mono ?_
  rintro e w3 ⟨rfl, hb⟩
  have B3 := hide (next B2.out hb)
  have MB3 := hide (MB2.out.keep hb)
  have NB3 := hide (NB2.out.keep hb)
  have RB3 := hide (RB2.out.keep hb)
  clear hb
  go_wp2_with (have hst := RB3.out; refine wpList_store_row rfl 37 _ _ rfl _ (exC lostN (.slice none 0 0)) rfl rfl 37 _ hst (exC_info _ _) (by rfl) (exC_one _ _ _ _) ?_)
  have F3 := RB3.out.setRow (cs := exC lostN (.slice none 0 0))
  refine bodyPost_ret (v := exV lostN (.slice none 0 0)) (results_cell_row Try.results46 _ _ (w.heap.size + 1 + 1) 37 (exC lostN (.slice none 0 0)) (0, 0) _ rfl F3 Try.underlying37 rfl (exC_info _ _)) rfl ?_
  exact ⟨rfl, below_setRow B3.out (by omega) _⟩
set_option maxHeartbeats 2000000 in
set_option maxRecDepth 100000 in
theorem double_2tt (dr dc t n : Int) (nd : Nd) (a : Option Addr) (len cap : Nat) (w : World) (hr : mayB nd.ref.row nd.ref.col = true) (hs : mayB nd.to.row nd.to.col = true) (t0 : 0 ≤ t) (t1 : t < 65536) (hq : (outR t n nd.ref.row 65536 && outR t n nd.to.row 65536) = false) (hg : mayB { nd with ref := ⟨(endA t n nd.ref.row nd.to.row 65536), nd.ref.col, nd.ref.pr, nd.ref.pc⟩, to := ⟨(endA t n nd.to.row nd.ref.row 65536), nd.to.col, nd.to.pr, nd.to.pc⟩ }.ref.row { nd with ref := ⟨(endA t n nd.ref.row nd.to.row 65536), nd.ref.col, nd.ref.pr, nd.ref.pc⟩, to := ⟨(endA t n nd.to.row nd.ref.row 65536), nd.to.col, nd.to.pr, nd.to.pc⟩ }.ref.col = true) (hg2 : mayB { nd with ref := ⟨(endA t n nd.ref.row nd.to.row 65536), nd.ref.col, nd.ref.pr, nd.ref.pc⟩, to := ⟨(endA t n nd.to.row nd.ref.row 65536), nd.to.col, nd.to.pr, nd.to.pc⟩ }.to.row { nd with ref := ⟨(endA t n nd.ref.row nd.to.row 65536), nd.ref.col, nd.ref.pr, nd.ref.pc⟩, to := ⟨(endA t n nd.to.row nd.ref.row 65536), nd.to.col, nd.to.pr, nd.to.pc⟩ }.to.col = true) : Calls Try.prog 46 #[mvV 2 dr dc t n, exV nd (.slice a len cap)] w fun e w' => e = .returned (exV { nd with ref := ⟨(endA t n nd.ref.row nd.to.row 65536), nd.ref.col, nd.ref.pr, nd.ref.pc⟩, to := ⟨(endA t n nd.to.row nd.ref.row 65536), nd.to.col, nd.to.pr, nd.to.pc⟩ } (.slice a len cap)) ∧ Below w.heap.size w w' := by
  have hr := mayB_iff.1 hr
  have hs := mayB_iff.1 hs
  have HE := hide (rends_no 2 dr dc t n nd.ref.row nd.to.row 65536 t0 t1 (by omega) (by omega) (by omega) (by omega) (by omega) (by omega) hq)
  have HG := hide (ron_any { nd with ref := ⟨(endA t n nd.ref.row nd.to.row 65536), nd.ref.col, nd.ref.pr, nd.ref.pc⟩, to := ⟨(endA t n nd.to.row nd.ref.row 65536), nd.to.col, nd.to.pr, nd.to.pc⟩ }.ref)
  rw [hg] at HG
  dsimp only at HG
  have HG2 := hide (ron_any { nd with ref := ⟨(endA t n nd.ref.row nd.to.row 65536), nd.ref.col, nd.ref.pr, nd.ref.pc⟩, to := ⟨(endA t n nd.to.row nd.ref.row 65536), nd.to.col, nd.to.pr, nd.to.pc⟩ }.to)
  rw [hg2] at HG2
  dsimp only at HG2
  clear hg2
  clear hr hs hq hg
  generalize endA t n nd.ref.row nd.to.row 65536 = L1 at *
  generalize endA t n nd.to.row nd.ref.row 65536 = L2 at *
  have MB0 := hide (((Blk.new w #[.int .i64 2, .int .i64 dr, .int .i64 dc, .int .i64 t, .int .i64 n] 64).alloc (exO nd (.slice a len cap))).alloc (exO nd0 (.slice none 0 0)))
  have NB0 := hide ((Blk.new1 w (.cells #[.int .i64 2, .int .i64 dr, .int .i64 dc, .int .i64 t, .int .i64 n] 64) (exC nd (.slice a len cap)) 37).alloc (exO nd0 (.slice none 0 0)))
  have RB0 := hide (Blk.new2 w (.cells #[.int .i64 2, .int .i64 dr, .int .i64 dc, .int .i64 t, .int .i64 n] 64) (exO nd (.slice a len cap)) (exC nd0 (.slice none 0 0)) 37)
  have B0 := hide (step (step (step (Below.refl w.heap.size w) (.cells #[.int .i64 2, .int .i64 dr, .int .i64 dc, .int .i64 t, .int .i64 n] 64)) (exO nd (.slice a len cap))) (exO nd0 (.slice none 0 0)))
  obtain ⟨w0, hw0⟩ : ∃ w0, ((w.alloc (.cells #[.int .i64 2, .int .i64 dr, .int .i64 dc, .int .i64 t, .int .i64 n] 64)).alloc (exO nd (.slice a len cap))).alloc (.cells #[.int .i64 0, .int .i64 0, .int .i64 0, .string { data := #[] }, .int .i64 0, .int .i64 0, .bool false, .bool false, .int .i64 0, .int .i64 0, .bool false, .bool false, .int .i64 0, .slice none 0 0] 37) = w0 := ⟨_, rfl⟩
  replace MB0 : Hid (Blk w0 w.heap.size #[.int .i64 2, .int .i64 dr, .int .i64 dc, .int .i64 t, .int .i64 n] 64) := by rw [← hw0]; exact MB0
  replace NB0 : Hid (Blk w0 (w.heap.size + 1) (exC nd (.slice a len cap)) 37) := by rw [← hw0]; exact NB0
  replace RB0 : Hid (Blk w0 (w.heap.size + 1 + 1) (exC nd0 (.slice none 0 0)) 37) := by rw [← hw0]; exact RB0
  replace B0 : Hid (Below w.heap.size w w0) := by rw [← hw0]; exact B0
  have m0 : w0.cell? ⟨w.heap.size, 0, none⟩ = some (.int .i64 2) := MB0.out.at' 0
  have m1 : w0.cell? ⟨w.heap.size, 1, none⟩ = some (.int .i64 dr) := MB0.out.at' 1
  have m2 : w0.cell? ⟨w.heap.size, 2, none⟩ = some (.int .i64 dc) := MB0.out.at' 2
  have m3 : w0.cell? ⟨w.heap.size, 3, none⟩ = some (.int .i64 t) := MB0.out.at' 3
  have m4 : w0.cell? ⟨w.heap.size, 4, none⟩ = some (.int .i64 n) := MB0.out.at' 4
  obtain ⟨z0, z1, z2, z3, z4, z5, z6, z7, z8, z9, z10, z11, z12, z13⟩ := NB0.out.c14
  try dsimp only at z0 z1 z2 z3 z4 z5 z6 z7 z8 z9 z10 z11 z12 z13
  go_enter Try.func46, Try.ntmps46
  go_wp2_with fail
  clear hw0
  refine (HE.out w0).mono ?_
  rintro e w1 ⟨rfl, hb⟩
  have B1 := hide (next B0.out hb)
  have MB1 := hide (MB0.out.keep hb)
  have NB1 := hide (NB0.out.keep hb)
  have RB1 := hide (RB0.out.keep hb)
  clear hb
  clear m0 m1 m2 m3 m4 z0 z1 z2 z3 z4 z5 z6 z7 z8 z9 z10 z11 z12 z13
  have m0 : w1.cell? ⟨w.heap.size, 0, none⟩ = some (.int .i64 2) := MB1.out.at' 0
  have m1 : w1.cell? ⟨w.heap.size, 1, none⟩ = some (.int .i64 dr) := MB1.out.at' 1
  have m2 : w1.cell? ⟨w.heap.size, 2, none⟩ = some (.int .i64 dc) := MB1.out.at' 2
  have m3 : w1.cell? ⟨w.heap.size, 3, none⟩ = some (.int .i64 t) := MB1.out.at' 3
  have m4 : w1.cell? ⟨w.heap.size, 4, none⟩ = some (.int .i64 n) := MB1.out.at' 4
  obtain ⟨z0, z1, z2, z3, z4, z5, z6, z7, z8, z9, z10, z11, z12, z13⟩ := NB1.out.c14
  try dsimp only at z0 z1 z2 z3 z4 z5 z6 z7 z8 z9 z10 z11 z12 z13
  have f4 := NB1.out.fr 4
  have f8 := NB1.out.fr 8
  go_wp2_with fail
  have B2 : Hid (Below w.heap.size w ((w1.setCell ⟨w.heap.size + 1, 4, none⟩ (.int .i64 L1)).setCell ⟨w.heap.size + 1, 8, none⟩ (.int .i64 L2))) := hide ((B1.out.setCell (p := ⟨w.heap.size + 1, 4, none⟩) (by simp) _).setCell (p := ⟨w.heap.size + 1, 8, none⟩) (by simp) _)
  have MB2 : Hid (Blk ((w1.setCell ⟨w.heap.size + 1, 4, none⟩ (.int .i64 L1)).setCell ⟨w.heap.size + 1, 8, none⟩ (.int .i64 L2)) w.heap.size #[.int .i64 2, .int .i64 dr, .int .i64 dc, .int .i64 t, .int .i64 n] 64) := hide (blk_other (blk_other MB1.out (by omega)) (by omega))
  have NB2 : Hid (Blk ((w1.setCell ⟨w.heap.size + 1, 4, none⟩ (.int .i64 L1)).setCell ⟨w.heap.size + 1, 8, none⟩ (.int .i64 L2)) (w.heap.size + 1) (exC { nd with ref := ⟨L1, nd.ref.col, nd.ref.pr, nd.ref.pc⟩, to := ⟨L2, nd.to.col, nd.to.pr, nd.to.pc⟩ } (.slice a len cap)) 37) := hide ((NB1.out.set 4 (.int .i64 L1)).set 8 (.int .i64 L2))
  have RB2 : Hid (Blk ((w1.setCell ⟨w.heap.size + 1, 4, none⟩ (.int .i64 L1)).setCell ⟨w.heap.size + 1, 8, none⟩ (.int .i64 L2)) (w.heap.size + 1 + 1) (exC nd0 (.slice none 0 0)) 37) := hide (blk_other (blk_other RB1.out (by omega)) (by omega))
  obtain ⟨w2, hw2⟩ : ∃ w2, ((w1.setCell ⟨w.heap.size + 1, 4, none⟩ (.int .i64 L1)).setCell ⟨w.heap.size + 1, 8, none⟩ (.int .i64 L2)) = w2 := ⟨_, rfl⟩
  rw [hw2] at B2 MB2 NB2 RB2 ⊢
  clear hw2
  clear f4 f8
  clear m0 m1 m2 m3 m4 z0 z1 z2 z3 z4 z5 z6 z7 z8 z9 z10 z11 z12 z13
  refine (HG.out w2).mono ?_
  rintro e w3 ⟨rfl, hb⟩
  have B3 := hide (next B2.out hb)
  have MB3 := hide (MB2.out.keep hb)
  have NB3 := hide (NB2.out.keep hb)
  have RB3 := hide (RB2.out.keep hb)
  clear hb
  obtain ⟨-, -, -, -, y4, y5, y6, y7, y8, y9, y10, y11, -, -⟩ := NB3.out.c14
  dsimp only at y4 y5 y6 y7 y8 y9 y10 y11
  go_wp2_with fail
  refine (HG2.out w3).mono ?_
  rintro e w4 ⟨rfl, hb⟩
  have B4 := hide (next B3.out hb)
  have MB4 := hide (MB3.out.keep hb)
  have NB4 := hide (NB3.out.keep hb)
  have RB4 := hide (RB3.out.keep hb)
  clear hb
  clear y4 y5 y6 y7 y8 y9 y10 y11
  go_wp2_with (first
    | (refine wpList_load_blk rfl 37 _ rfl _ rfl _ (by with_reducible exact NB4.out) _ Try.underlying37 rfl (exC_info _ _) ?_)
    | (have hst := RB4.out; refine wpList_store_row rfl 37 _ _ rfl _ (exC { nd with ref := ⟨L1, nd.ref.col, nd.ref.pr, nd.ref.pc⟩, to := ⟨L2, nd.to.col, nd.to.pr, nd.to.pc⟩ } (.slice a len cap)) rfl rfl 37 _ hst (exC_info _ _) (by rfl) (exC_one _ _ _ _) ?_))
  have F3 := RB4.out.setRow (cs := exC { nd with ref := ⟨L1, nd.ref.col, nd.ref.pr, nd.ref.pc⟩, to := ⟨L2, nd.to.col, nd.to.pr, nd.to.pc⟩ } (.slice a len cap))
  refine bodyPost_ret (v := exV { nd with ref := ⟨L1, nd.ref.col, nd.ref.pr, nd.ref.pc⟩, to := ⟨L2, nd.to.col, nd.to.pr, nd.to.pc⟩ } (.slice a len cap)) (results_cell_row Try.results46 _ _ (w.heap.size + 1 + 1) 37 (exC { nd with ref := ⟨L1, nd.ref.col, nd.ref.pr, nd.ref.pc⟩, to := ⟨L2, nd.to.col, nd.to.pr, nd.to.pc⟩ } (.slice a len cap)) (0, 0) _ rfl F3 Try.underlying37 rfl (exC_info _ _)) rfl ?_
  exact ⟨rfl, below_setRow B4.out (by omega) _⟩
set_option maxHeartbeats 2000000 in
set_option maxRecDepth 100000 in
theorem double_2tf (dr dc t n : Int) (nd : Nd) (a : Option Addr) (len cap : Nat) (w : World) (hr : mayB nd.ref.row nd.ref.col = true) (hs : mayB nd.to.row nd.to.col = true) (t0 : 0 ≤ t) (t1 : t < 65536) (hq : (outR t n nd.ref.row 65536 && outR t n nd.to.row 65536) = false) (hg : mayB { nd with ref := ⟨(endA t n nd.ref.row nd.to.row 65536), nd.ref.col, nd.ref.pr, nd.ref.pc⟩, to := ⟨(endA t n nd.to.row nd.ref.row 65536), nd.to.col, nd.to.pr, nd.to.pc⟩ }.ref.row { nd with ref := ⟨(endA t n nd.ref.row nd.to.row 65536), nd.ref.col, nd.ref.pr, nd.ref.pc⟩, to := ⟨(endA t n nd.to.row nd.ref.row 65536), nd.to.col, nd.to.pr, nd.to.pc⟩ }.ref.col = true) (hg2 : mayB { nd with ref := ⟨(endA t n nd.ref.row nd.to.row 65536), nd.ref.col, nd.ref.pr, nd.ref.pc⟩, to := ⟨(endA t n nd.to.row nd.ref.row 65536), nd.to.col, nd.to.pr, nd.to.pc⟩ }.to.row { nd with ref := ⟨(endA t n nd.ref.row nd.to.row 65536), nd.ref.col, nd.ref.pr, nd.ref.pc⟩, to := ⟨(endA t n nd.to.row nd.ref.row 65536), nd.to.col, nd.to.pr, nd.to.pc⟩ }.to.col = false) : Calls Try.prog 46 #[mvV 2 dr dc t n, exV nd (.slice a len cap)] w fun e w' => e = .returned (exV lostN (.slice none 0 0)) ∧ Below w.heap.size w w' := by
  have hr := mayB_iff.1 hr
  have hs := mayB_iff.1 hs
  have HE := hide (rends_no 2 dr dc t n nd.ref.row nd.to.row 65536 t0 t1 (by omega) (by omega) (by omega) (by omega) (by omega) (by omega) hq)
  have HG := hide (ron_any { nd with ref := ⟨(endA t n nd.ref.row nd.to.row 65536), nd.ref.col, nd.ref.pr, nd.ref.pc⟩, to := ⟨(endA t n nd.to.row nd.ref.row 65536), nd.to.col, nd.to.pr, nd.to.pc⟩ }.ref)
  rw [hg] at HG
  dsimp only at HG
  have HG2 := hide (ron_any { nd with ref := ⟨(endA t n nd.ref.row nd.to.row 65536), nd.ref.col, nd.ref.pr, nd.ref.pc⟩, to := ⟨(endA t n nd.to.row nd.ref.row 65536), nd.to.col, nd.to.pr, nd.to.pc⟩ }.to)
  rw [hg2] at HG2
  dsimp only at HG2
  clear hg2
  clear hr hs hq hg
  generalize endA t n nd.ref.row nd.to.row 65536 = L1 at *
  generalize endA t n nd.to.row nd.ref.row 65536 = L2 at *
  have MB0 := hide (((Blk.new w #[.int .i64 2, .int .i64 dr, .int .i64 dc, .int .i64 t, .int .i64 n] 64).alloc (exO nd (.slice a len cap))).alloc (exO nd0 (.slice none 0 0)))
  have NB0 := hide ((Blk.new1 w (.cells #[.int .i64 2, .int .i64 dr, .int .i64 dc, .int .i64 t, .int .i64 n] 64) (exC nd (.slice a len cap)) 37).alloc (exO nd0 (.slice none 0 0)))
  have RB0 := hide (Blk.new2 w (.cells #[.int .i64 2, .int .i64 dr, .int .i64 dc, .int .i64 t, .int .i64 n] 64) (exO nd (.slice a len cap)) (exC nd0 (.slice none 0 0)) 37)
  have B0 := hide (step (step (step (Below.refl w.heap.size w) (.cells #[.int .i64 2, .int .i64 dr, .int .i64 dc, .int .i64 t, .int .i64 n] 64)) (exO nd (.slice a len cap))) (exO nd0 (.slice none 0 0)))
  obtain ⟨w0, hw0⟩ : ∃ w0, ((w.alloc (.cells #[.int .i64 2, .int .i64 dr, .int .i64 dc, .int .i64 t, .int .i64 n] 64)).alloc (exO nd (.slice a len cap))).alloc (.cells #[.int .i64 0, .int .i64 0, .int .i64 0, .string { data := #[] }, .int .i64 0, .int .i64 0, .bool false, .bool false, .int .i64 0, .int .i64 0, .bool false, .bool false, .int .i64 0, .slice none 0 0] 37) = w0 := ⟨_, rfl⟩
  replace MB0 : Hid (Blk w0 w.heap.size #[.int .i64 2, .int .i64 dr, .int .i64 dc, .int .i64 t, .int .i64 n] 64) := by rw [← hw0]; exact MB0
  replace NB0 : Hid (Blk w0 (w.heap.size + 1) (exC nd (.slice a len cap)) 37) := by rw [← hw0]; exact NB0
  replace RB0 : Hid (Blk w0 (w.heap.size + 1 + 1) (exC nd0 (.slice none 0 0)) 37) := by rw [← hw0]; exact RB0
  replace B0 : Hid (Below w.heap.size w w0) := by rw [← hw0]; exact B0
  have m0 : w0.cell? ⟨w.heap.size, 0, none⟩ = some (.int .i64 2) := MB0.out.at' 0
  have m1 : w0.cell? ⟨w.heap.size, 1, none⟩ = some (.int .i64 dr) := MB0.out.at' 1
  have m2 : w0.cell? ⟨w.heap.size, 2, none⟩ = some (.int .i64 dc) := MB0.out.at' 2
  have m3 : w0.cell? ⟨w.heap.size, 3, none⟩ = some (.int .i64 t) := MB0.out.at' 3
  have m4 : w0.cell? ⟨w.heap.size, 4, none⟩ = some (.int .i64 n) := MB0.out.at' 4
  obtain ⟨z0, z1, z2, z3, z4, z5, z6, z7, z8, z9, z10, z11, z12, z13⟩ := NB0.out.c14
  try dsimp only at z0 z1 z2 z3 z4 z5 z6 z7 z8 z9 z10 z11 z12 z13
  go_enter Try.func46, Try.ntmps46
  go_wp2_with fail
  clear hw0
  refine (HE.out w0).mono ?_
  rintro e w1 ⟨rfl, hb⟩
  have B1 := hide (next B0.out hb)
  have MB1 := hide (MB0.out.keep hb)
  have NB1 := hide (NB0.out.keep hb)
  have RB1 := hide (RB0.out.keep hb)
  clear hb
  clear m0 m1 m2 m3 m4 z0 z1 z2 z3 z4 z5 z6 z7 z8 z9 z10 z11 z12 z13
  have m0 : w1.cell? ⟨w.heap.size, 0, none⟩ = some (.int .i64 2) := MB1.out.at' 0
  have m1 : w1.cell? ⟨w.heap.size, 1, none⟩ = some (.int .i64 dr) := MB1.out.at' 1
  have m2 : w1.cell? ⟨w.heap.size, 2, none⟩ = some (.int .i64 dc) := MB1.out.at' 2
  have m3 : w1.cell? ⟨w.heap.size, 3, none⟩ = some (.int .i64 t) := MB1.out.at' 3
  have m4 : w1.cell? ⟨w.heap.size, 4, none⟩ = some (.int .i64 n) := MB1.out.at' 4
  obtain ⟨z0, z1, z2, z3, z4, z5, z6, z7, z8, z9, z10, z11, z12, z13⟩ := NB1.out.c14
  try dsimp only at z0 z1 z2 z3 z4 z5 z6 z7 z8 z9 z10 z11 z12 z13
  have f4 := NB1.out.fr 4
  have f8 := NB1.out.fr 8
  go_wp2_with fail
  have B2 : Hid (Below w.heap.size w ((w1.setCell ⟨w.heap.size + 1, 4, none⟩ (.int .i64 L1)).setCell ⟨w.heap.size + 1, 8, none⟩ (.int .i64 L2))) := hide ((B1.out.setCell (p := ⟨w.heap.size + 1, 4, none⟩) (by simp) _).setCell (p := ⟨w.heap.size + 1, 8, none⟩) (by simp) _)
  have MB2 : Hid (Blk ((w1.setCell ⟨w.heap.size + 1, 4, none⟩ (.int .i64 L1)).setCell ⟨w.heap.size + 1, 8, none⟩ (.int .i64 L2)) w.heap.size #[.int .i64 2, .int .i64 dr, .int .i64 dc, .int .i64 t, .int .i64 n] 64) := hide (blk_other (blk_other MB1.out (by omega)) (by omega))
  have NB2 : Hid (Blk ((w1.setCell ⟨w.heap.size + 1, 4, none⟩ (.int .i64 L1)).setCell ⟨w.heap.size + 1, 8, none⟩ (.int .i64 L2)) (w.heap.size + 1) (exC { nd with ref := ⟨L1, nd.ref.col, nd.ref.pr, nd.ref.pc⟩, to := ⟨L2, nd.to.col, nd.to.pr, nd.to.pc⟩ } (.slice a len cap)) 37) := hide ((NB1.out.set 4 (.int .i64 L1)).set 8 (.int .i64 L2))
  have RB2 : Hid (Blk ((w1.setCell ⟨w.heap.size + 1, 4, none⟩ (.int .i64 L1)).setCell ⟨w.heap.size + 1, 8, none⟩ (.int .i64 L2)) (w.heap.size + 1 + 1) (exC nd0 (.slice none 0 0)) 37) := hide (blk_other (blk_other RB1.out (by omega)) (by omega))
  obtain ⟨w2, hw2⟩ : ∃ w2, ((w1.setCell ⟨w.heap.size + 1, 4, none⟩ (.int .i64 L1)).setCell ⟨w.heap.size + 1, 8, none⟩ (.int .i64 L2)) = w2 := ⟨_, rfl⟩
  rw [hw2] at B2 MB2 NB2 RB2 ⊢
  clear hw2
  clear f4 f8
  clear m0 m1 m2 m3 m4 z0 z1 z2 z3 z4 z5 z6 z7 z8 z9 z10 z11 z12 z13
  refine (HG.out w2).mono ?_
  rintro e w3 ⟨rfl, hb⟩
  have B3 := hide (next B2.out hb)
  have MB3 := hide (MB2.out.keep hb)
  have NB3 := hide (NB2.out.keep hb)
  have RB3 := hide (RB2.out.keep hb)
  clear hb
  obtain ⟨-, -, -, -, y4, y5, y6, y7, y8, y9, y10, y11, -, -⟩ := NB3.out.c14
  dsimp only at y4 y5 y6 y7 y8 y9 y10 y11
  go_wp2_with fail
  refine (HG2.out w3).mono ?_
  rintro e w4 ⟨rfl, hb⟩
  have B4 := hide (next B3.out hb)
  have MB4 := hide (MB3.out.keep hb)
  have NB4 := hide (NB3.out.keep hb)
  have RB4 := hide (RB3.out.keep hb)
  clear hb
  clear y4 y5 y6 y7 y8 y9 y10 y11
  go_wp2_with fail
  refine (rlost_any w4).mono ?_
  rintro e w5 ⟨rfl, hb⟩
  have B5 := hide (next B4.out hb)
  have MB5 := hide (MB4.out.keep hb)
  have NB5 := hide (NB4.out.keep hb)
  have RB5 := hide (RB4.out.keep hb)
  clear hb
  go_wp2_with (have hst := RB5.out; refine wpList_store_row rfl 37 _ _ rfl _ (exC lostN (.slice none 0 0)) rfl rfl 37 _ hst (exC_info _ _) (by rfl) (exC_one _ _ _ _) ?_)
  have F3 := RB5.out.setRow (cs := exC lostN (.slice none 0 0))
  refine bodyPost_ret (v := exV lostN (.slice none 0 0)) (results_cell_row Try.results46 _ _ (w.heap.size + 1 + 1) 37 (exC lostN (.slice none 0 0)) (0, 0) _ rfl F3 Try.underlying37 rfl (exC_info _ _)) rfl ?_
  exact ⟨rfl, below_setRow B5.out (by omega) _⟩
set_option maxHeartbeats 2000000 in
set_option maxRecDepth 100000 in
theorem double_2f (dr dc t n : Int) (nd : Nd) (a : Option Addr) (len cap : Nat) (w : World) (hr : mayB nd.ref.row nd.ref.col = true) (hs : mayB nd.to.row nd.to.col = true) (t0 : 0 ≤ t) (t1 : t < 65536) (hq : (outR t n nd.ref.row 65536 && outR t n nd.to.row 65536) = false) (hg : mayB { nd with ref := ⟨(endA t n nd.ref.row nd.to.row 65536), nd.ref.col, nd.ref.pr, nd.ref.pc⟩, to := ⟨(endA t n nd.to.row nd.ref.row 65536), nd.to.col, nd.to.pr, nd.to.pc⟩ }.ref.row { nd with ref := ⟨(endA t n nd.ref.row nd.to.row 65536), nd.ref.col, nd.ref.pr, nd.ref.pc⟩, to := ⟨(endA t n nd.to.row nd.ref.row 65536), nd.to.col, nd.to.pr, nd.to.pc⟩ }.ref.col = false) : Calls Try.prog 46 #[mvV 2 dr dc t n, exV nd (.slice a len cap)] w fun e w' => e = .returned (exV lostN (.slice none 0 0)) ∧ Below w.heap.size w w' := by
  have hr := mayB_iff.1 hr
  have hs := mayB_iff.1 hs
  have HE := hide (rends_no 2 dr dc t n nd.ref.row nd.to.row 65536 t0 t1 (by omega) (by omega) (by omega) (by omega) (by omega) (by omega) hq)
  have HG := hide (ron_any { nd with ref := ⟨(endA t n nd.ref.row nd.to.row 65536), nd.ref.col, nd.ref.pr, nd.ref.pc⟩, to := ⟨(endA t n nd.to.row nd.ref.row 65536), nd.to.col, nd.to.pr, nd.to.pc⟩ }.ref)
  rw [hg] at HG
  dsimp only at HG
  clear hr hs hq hg
  generalize endA t n nd.ref.row nd.to.row 65536 = L1 at *
  generalize endA t n nd.to.row nd.ref.row 65536 = L2 at *
  have MB0 := hide (((Blk.new w #[.int .i64 2, .int .i64 dr, .int .i64 dc, .int .i64 t, .int .i64 n] 64).alloc (exO nd (.slice a len cap))).alloc (exO nd0 (.slice none 0 0)))
  have NB0 := hide ((Blk.new1 w (.cells #[.int .i64 2, .int .i64 dr, .int .i64 dc, .int .i64 t, .int .i64 n] 64) (exC nd (.slice a len cap)) 37).alloc (exO nd0 (.slice none 0 0)))
  have RB0 := hide (Blk.new2 w (.cells #[.int .i64 2, .int .i64 dr, .int .i64 dc, .int .i64 t, .int .i64 n] 64) (exO nd (.slice a len cap)) (exC nd0 (.slice none 0 0)) 37)
  have B0 := hide (step (step (step (Below.refl w.heap.size w) (.cells #[.int .i64 2, .int .i64 dr, .int .i64 dc, .int .i64 t, .int .i64 n] 64)) (exO nd (.slice a len cap))) (exO nd0 (.slice none 0 0)))
  obtain ⟨w0, hw0⟩ : ∃ w0, ((w.alloc (.cells #[.int .i64 2, .int .i64 dr, .int .i64 dc, .int .i64 t, .int .i64 n] 64)).alloc (exO nd (.slice a len cap))).alloc (.cells #[.int .i64 0, .int .i64 0, .int .i64 0, .string { data := #[] }, .int .i64 0, .int .i64 0, .bool false, .bool false, .int .i64 0, .int .i64 0, .bool false, .bool false, .int .i64 0, .slice none 0 0] 37) = w0 := ⟨_, rfl⟩
  replace MB0 : Hid (Blk w0 w.heap.size #[.int .i64 2, .int .i64 dr, .int .i64 dc, .int .i64 t, .int .i64 n] 64) := by rw [← hw0]; exact MB0
  replace NB0 : Hid (Blk w0 (w.heap.size + 1) (exC nd (.slice a len cap)) 37) := by rw [← hw0]; exact NB0
  replace RB0 : Hid (Blk w0 (w.heap.size + 1 + 1) (exC nd0 (.slice none 0 0)) 37) := by rw [← hw0]; exact RB0
  replace B0 : Hid (Below w.heap.size w w0) := by rw [← hw0]; exact B0
  have m0 : w0.cell? ⟨w.heap.size, 0, none⟩ = some (.int .i64 2) := MB0.out.at' 0
  have m1 : w0.cell? ⟨w.heap.size, 1, none⟩ = some (.int .i64 dr) := MB0.out.at' 1
  have m2 : w0.cell? ⟨w.heap.size, 2, none⟩ = some (.int .i64 dc) := MB0.out.at' 2
  have m3 : w0.cell? ⟨w.heap.size, 3, none⟩ = some (.int .i64 t) := MB0.out.at' 3
  have m4 : w0.cell? ⟨w.heap.size, 4, none⟩ = some (.int .i64 n) := MB0.out.at' 4
  obtain ⟨z0, z1, z2, z3, z4, z5, z6, z7, z8, z9, z10, z11, z12, z13⟩ := NB0.out.c14
  try dsimp only at z0 z1 z2 z3 z4 z5 z6 z7 z8 z9 z10 z11 z12 z13
  go_enter Try.func46, Try.ntmps46
  go_wp2_with fail
  clear hw0
  refine (HE.out w0).mono ?_
  rintro e w1 ⟨rfl, hb⟩
  have B1 := hide (next B0.out hb)
  have MB1 := hide (MB0.out.keep hb)
  have NB1 := hide (NB0.out.keep hb)
  have RB1 := hide (RB0.out.keep hb)
  clear hb
  clear m0 m1 m2 m3 m4 z0 z1 z2 z3 z4 z5 z6 z7 z8 z9 z10 z11 z12 z13
  have m0 : w1.cell? ⟨w.heap.size, 0, none⟩ = some (.int .i64 2) := MB1.out.at' 0
  have m1 : w1.cell? ⟨w.heap.size, 1, none⟩ = some (.int .i64 dr) := MB1.out.at' 1
  have m2 : w1.cell? ⟨w.heap.size, 2, none⟩ = some (.int .i64 dc) := MB1.out.at' 2
  have m3 : w1.cell? ⟨w.heap.size, 3, none⟩ = some (.int .i64 t) := MB1.out.at' 3
  have m4 : w1.cell? ⟨w.heap.size, 4, none⟩ = some (.int .i64 n) := MB1.out.at' 4
  obtain ⟨z0, z1, z2, z3, z4, z5, z6, z7, z8, z9, z10, z11, z12, z13⟩ := NB1.out.c14
  try dsimp only at z0 z1 z2 z3 z4 z5 z6 z7 z8 z9 z10 z11 z12 z13
  have f4 := NB1.out.fr 4
  have f8 := NB1.out.fr 8
  go_wp2_with fail
  have B2 : Hid (Below w.heap.size w ((w1.setCell ⟨w.heap.size + 1, 4, none⟩ (.int .i64 L1)).setCell ⟨w.heap.size + 1, 8, none⟩ (.int .i64 L2))) := hide ((B1.out.setCell (p := ⟨w.heap.size + 1, 4, none⟩) (by simp) _).setCell (p := ⟨w.heap.size + 1, 8, none⟩) (by simp) _)
  have MB2 : Hid (Blk ((w1.setCell ⟨w.heap.size + 1, 4, none⟩ (.int .i64 L1)).setCell ⟨w.heap.size + 1, 8, none⟩ (.int .i64 L2)) w.heap.size #[.int .i64 2, .int .i64 dr, .int .i64 dc, .int .i64 t, .int .i64 n] 64) := hide (blk_other (blk_other MB1.out (by omega)) (by omega))
  have NB2 : Hid (Blk ((w1.setCell ⟨w.heap.size + 1, 4, none⟩ (.int .i64 L1)).setCell ⟨w.heap.size + 1, 8, none⟩ (.int .i64 L2)) (w.heap.size + 1) (exC { nd with ref := ⟨L1, nd.ref.col, nd.ref.pr, nd.ref.pc⟩, to := ⟨L2, nd.to.col, nd.to.pr, nd.to.pc⟩ } (.slice a len cap)) 37) := hide ((NB1.out.set 4 (.int .i64 L1)).set 8 (.int .i64 L2))
  have RB2 : Hid (Blk ((w1.setCell ⟨w.heap.size + 1, 4, none⟩ (.int .i64 L1)).setCell ⟨w.heap.size + 1, 8, none⟩ (.int .i64 L2)) (w.heap.size + 1 + 1) (exC nd0 (.slice none 0 0)) 37) := hide (blk_other (blk_other RB1.out (by omega)) (by omega))
  obtain ⟨w2, hw2⟩ : ∃ w2, ((w1.setCell ⟨w.heap.size + 1, 4, none⟩ (.int .i64 L1)).setCell ⟨w.heap.size + 1, 8, none⟩ (.int .i64 L2)) = w2 := ⟨_, rfl⟩
  rw [hw2] at B2 MB2 NB2 RB2 ⊢
  clear hw2
  clear f4 f8
  clear m0 m1 m2 m3 m4 z0 z1 z2 z3 z4 z5 z6 z7 z8 z9 z10 z11 z12 z13
  refine (HG.out w2).mono ?_
  rintro e w3 ⟨rfl, hb⟩
  have B3 := hide (next B2.out hb)
  have MB3 := hide (MB2.out.keep hb)
  have NB3 := hide (NB2.out.keep hb)
  have RB3 := hide (RB2.out.keep hb)
  clear hb
  go_wp2_with fail
  refine (rlost_any w3).mono ?_
  rintro e w4 ⟨rfl, hb⟩
  have B4 := hide (next B3.out hb)
  have MB4 := hide (MB3.out.keep hb)
  have NB4 := hide (NB3.out.keep hb)
  have RB4 := hide (RB3.out.keep hb)
  clear hb
  go_wp2_with (have hst := RB4.out; refine wpList_store_row rfl 37 _ _ rfl _ (exC lostN (.slice none 0 0)) rfl rfl 37 _ hst (exC_info _ _) (by rfl) (exC_one _ _ _ _) ?_)
  have F3 := RB4.out.setRow (cs := exC lostN (.slice none 0 0))
  refine bodyPost_ret (v := exV lostN (.slice none 0 0)) (results_cell_row Try.results46 _ _ (w.heap.size + 1 + 1) 37 (exC lostN (.slice none 0 0)) (0, 0) _ rfl F3 Try.underlying37 rfl (exC_info _ _)) rfl ?_
  exact ⟨rfl, below_setRow B4.out (by omega) _⟩
set_option maxHeartbeats 2000000 in
set_option maxRecDepth 100000 in
theorem double_3o (dr dc t n : Int) (nd : Nd) (a : Option Addr) (len cap : Nat) (w : World) (hr : mayB nd.ref.row nd.ref.col = true) (hs : mayB nd.to.row nd.to.col = true) (t0 : 0 ≤ t) (t1 : t < 702) (hq : (outR t n nd.ref.col 702 && outR t n nd.to.col 702) = true) : Calls Try.prog 46 #[mvV 3 dr dc t n, exV nd (.slice a len cap)] w fun e w' => e = .returned (exV lostN (.slice none 0 0)) ∧ Below w.heap.size w w' := by
  have hr := mayB_iff.1 hr
  have hs := mayB_iff.1 hs
  have HE := hide (rends_yes 3 dr dc t n nd.ref.col nd.to.col 702 t0 t1 (by omega) (by omega) (by omega) (by omega) (by omega) (by omega) hq)
  clear hr hs hq
  have MB0 := hide (((Blk.new w #[.int .i64 3, .int .i64 dr, .int .i64 dc, .int .i64 t, .int .i64 n] 64).alloc (exO nd (.slice a len cap))).alloc (exO nd0 (.slice none 0 0)))
  have NB0 := hide ((Blk.new1 w (.cells #[.int .i64 3, .int .i64 dr, .int .i64 dc, .int .i64 t, .int .i64 n] 64) (exC nd (.slice a len cap)) 37).alloc (exO nd0 (.slice none 0 0)))
  have RB0 := hide (Blk.new2 w (.cells #[.int .i64 3, .int .i64 dr, .int .i64 dc, .int .i64 t, .int .i64 n] 64) (exO nd (.slice a len cap)) (exC nd0 (.slice none 0 0)) 37)
  have B0 := hide (step (step (step (Below.refl w.heap.size w) (.cells #[.int .i64 3, .int .i64 dr, .int .i64 dc, .int .i64 t, .int .i64 n] 64)) (exO nd (.slice a len cap))) (exO nd0 (.slice none 0 0)))
  obtain ⟨w0, hw0⟩ : ∃ w0, ((w.alloc (.cells #[.int .i64 3, .int .i64 dr, .int .i64 dc, .int .i64 t, .int .i64 n] 64)).alloc (exO nd (.slice a len cap))).alloc (.cells #[.int .i64 0, .int .i64 0, .int .i64 0, .string { data := #[] }, .int .i64 0, .int .i64 0, .bool false, .bool false, .int .i64 0, .int .i64 0, .bool false, .bool false, .int .i64 0, .slice none 0 0] 37) = w0 := ⟨_, rfl⟩
  replace MB0 : Hid (Blk w0 w.heap.size #[.int .i64 3, .int .i64 dr, .int .i64 dc, .int .i64 t, .int .i64 n] 64) := by rw [← hw0]; exact MB0
  replace NB0 : Hid (Blk w0 (w.heap.size + 1) (exC nd (.slice a len cap)) 37) := by rw [← hw0]; exact NB0
  replace RB0 : Hid (Blk w0 (w.heap.size + 1 + 1) (exC nd0 (.slice none 0 0)) 37) := by rw [← hw0]; exact RB0
  replace B0 : Hid (Below w.heap.size w w0) := by rw [← hw0]; exact B0
  have m0 : w0.cell? ⟨w.heap.size, 0, none⟩ = some (.int .i64 3) := MB0.out.at' 0
  have m1 : w0.cell? ⟨w.heap.size, 1, none⟩ = some (.int .i64 dr) := MB0.out.at' 1
  have m2 : w0.cell? ⟨w.heap.size, 2, none⟩ = some (.int .i64 dc) := MB0.out.at' 2
  have m3 : w0.cell? ⟨w.heap.size, 3, none⟩ = some (.int .i64 t) := MB0.out.at' 3
  have m4 : w0.cell? ⟨w.heap.size, 4, none⟩ = some (.int .i64 n) := MB0.out.at' 4
  obtain ⟨z0, z1, z2, z3, z4, z5, z6, z7, z8, z9, z10, z11, z12, z13⟩ := NB0.out.c14
  try dsimp only at z0 z1 z2 z3 z4 z5 z6 z7 z8 z9 z10 z11 z12 z13
  go_enter Try.func46, Try.ntmps46
  go_wp2_with fail
  clear hw0
  refine (HE.out w0).mono ?_
  rintro e w1 ⟨rfl, hb⟩
  have B1 := hide (next B0.out hb)
  have MB1 := hide (MB0.out.keep hb)
  have NB1 := hide (NB0.out.keep hb)
  have RB1 := hide (RB0.out.keep hb)
  clear hb
  clear m0 m1 m2 m3 m4 z0 z1 z2 z3 z4 z5 z6 z7 z8 z9 z10 z11 z12 z13
  have m0 : w1.cell? ⟨w.heap.size, 0, none⟩ = some (.int .i64 3) := MB1.out.at' 0
  have m1 : w1.cell? ⟨w.heap.size, 1, none⟩ = some (.int .i64 dr) := MB1.out.at' 1
  have m2 : w1.cell? ⟨w.heap.size, 2, none⟩ = some (.int .i64 dc) := MB1.out.at' 2
  have m3 : w1.cell? ⟨w.heap.size, 3, none⟩ = some (.int .i64 t) := MB1.out.at' 3
  have m4 : w1.cell? ⟨w.heap.size, 4, none⟩ = some (.int .i64 n) := MB1.out.at' 4
  obtain ⟨z0, z1, z2, z3, z4, z5, z6, z7, z8, z9, z10, z11, z12, z13⟩ := NB1.out.c14
  try dsimp only at z0 z1 z2 z3 z4 z5 z6 z7 z8 z9 z10 z11 z12 z13
  have f4 := NB1.out.fr 5
  have f8 := NB1.out.fr 9
  go_wp2_with fail
  have B2 : Hid (Below w.heap.size w ((w1.setCell ⟨w.heap.size + 1, 5, none⟩ (.int .i64 0)).setCell ⟨w.heap.size + 1, 9, none⟩ (.int .i64 0))) := hide ((B1.out.setCell (p := ⟨w.heap.size + 1, 5, none⟩) (by simp) _).setCell (p := ⟨w.heap.size + 1, 9, none⟩) (by simp) _)
  have MB2 : Hid (Blk ((w1.setCell ⟨w.heap.size + 1, 5, none⟩ (.int .i64 0)).setCell ⟨w.heap.size + 1, 9, none⟩ (.int .i64 0)) w.heap.size #[.int .i64 3, .int .i64 dr, .int .i64 dc, .int .i64 t, .int .i64 n] 64) := hide (blk_other (blk_other MB1.out (by omega)) (by omega))
  have NB2 : Hid (Blk ((w1.setCell ⟨w.heap.size + 1, 5, none⟩ (.int .i64 0)).setCell ⟨w.heap.size + 1, 9, none⟩ (.int .i64 0)) (w.heap.size + 1) (exC { nd with ref := ⟨nd.ref.row, 0, nd.ref.pr, nd.ref.pc⟩, to := ⟨nd.to.row, 0, nd.to.pr, nd.to.pc⟩ } (.slice a len cap)) 37) := hide ((NB1.out.set 5 (.int .i64 0)).set 9 (.int .i64 0))
  have RB2 : Hid (Blk ((w1.setCell ⟨w.heap.size + 1, 5, none⟩ (.int .i64 0)).setCell ⟨w.heap.size + 1, 9, none⟩ (.int .i64 0)) (w.heap.size + 1 + 1) (exC nd0 (.slice none 0 0)) 37) := hide (blk_other (blk_other RB1.out (by omega)) (by omega))
  obtain ⟨w2, hw2⟩ : ∃ w2, ((w1.setCell ⟨w.heap.size + 1, 5, none⟩ (.int .i64 0)).setCell ⟨w.heap.size + 1, 9, none⟩ (.int .i64 0)) = w2 := ⟨_, rfl⟩
  rw [hw2] at B2 MB2 NB2 RB2 ⊢
  clear hw2
  clear f4 f8
  clear m0 m1 m2 m3 m4 z0 z1 z2 z3 z4 z5 z6 z7 z8 z9 z10 z11 z12 z13
  refine (rlost_any w2).mono ?_
  rintro e w3 ⟨rfl, hb⟩
  have B3 := hide (next B2.out hb)
  have MB3 := hide (MB2.out.keep hb)
  have NB3 := hide (NB2.out.keep hb)
  have RB3 := hide (RB2.out.keep hb)
  clear hb
  go_wp2_with (have hst := RB3.out; refine wpList_store_row rfl 37 _ _ rfl _ (exC lostN (.slice none 0 0)) rfl rfl 37 _ hst (exC_info _ _) (by rfl) (exC_one _ _ _ _) ?_)
  have F3 := RB3.out.setRow (cs := exC lostN (.slice none 0 0))
  refine bodyPost_ret (v := exV lostN (.slice none 0 0)) (results_cell_row Try.results46 _ _ (w.heap.size + 1 + 1) 37 (exC lostN (.slice none 0 0)) (0, 0) _ rfl F3 Try.underlying37 rfl (exC_info _ _)) rfl ?_
  exact ⟨rfl, below_setRow B3.out (by omega) _⟩
set_option maxHeartbeats 2000000 in
set_option maxRecDepth 100000 in
theorem double_3tt (dr dc t n : Int) (nd : Nd) (a : Option Addr) (len cap : Nat) (w : World) (hr : mayB nd.ref.row nd.ref.col = true) (hs : mayB nd.to.row nd.to.col = true) (t0 : 0 ≤ t) (t1 : t < 702) (hq : (outR t n nd.ref.col 702 && outR t n nd.to.col 702) = false) (hg : mayB { nd with ref := ⟨nd.ref.row, (endA t n nd.ref.col nd.to.col 702), nd.ref.pr, nd.ref.pc⟩, to := ⟨nd.to.row, (endA t n nd.to.col nd.ref.col 702), nd.to.pr, nd.to.pc⟩ }.ref.row { nd with ref := ⟨nd.ref.row, (endA t n nd.ref.col nd.to.col 702), nd.ref.pr, nd.ref.pc⟩, to := ⟨nd.to.row, (endA t n nd.to.col nd.ref.col 702), nd.to.pr, nd.to.pc⟩ }.ref.col = true) (hg2 : mayB { nd with ref := ⟨nd.ref.row, (endA t n nd.ref.col nd.to.col 702), nd.ref.pr, nd.ref.pc⟩, to := ⟨nd.to.row, (endA t n nd.to.col nd.ref.col 702), nd.to.pr, nd.to.pc⟩ }.to.row { nd with ref := ⟨nd.ref.row, (endA t n nd.ref.col nd.to.col 702), nd.ref.pr, nd.ref.pc⟩, to := ⟨nd.to.row, (endA t n nd.to.col nd.ref.col 702), nd.to.pr, nd.to.pc⟩ }.to.col = true) : Calls Try.prog 46 #[mvV 3 dr dc t n, exV nd (.slice a len cap)] w fun e w' => e = .returned (exV { nd with ref := ⟨nd.ref.row, (endA t n nd.ref.col nd.to.col 702), nd.ref.pr, nd.ref.pc⟩, to := ⟨nd.to.row, (endA t n nd.to.col nd.ref.col 702), nd.to.pr, nd.to.pc⟩ } (.slice a len cap)) ∧ Below w.heap.size w w' := by
  have hr := mayB_iff.1 hr
  have hs := mayB_iff.1 hs
  have HE := hide (rends_no 3 dr dc t n nd.ref.col nd.to.col 702 t0 t1 (by omega) (by omega) (by omega) (by omega) (by omega) (by omega) hq)
  have HG := hide (ron_any { nd with ref := ⟨nd.ref.row, (endA t n nd.ref.col nd.to.col 702), nd.ref.pr, nd.ref.pc⟩, to := ⟨nd.to.row, (endA t n nd.to.col nd.ref.col 702), nd.to.pr, nd.to.pc⟩ }.ref)
  rw [hg] at HG
  dsimp only at HG
  have HG2 := hide (ron_any { nd with ref := ⟨nd.ref.row, (endA t n nd.ref.col nd.to.col 702), nd.ref.pr, nd.ref.pc⟩, to := ⟨nd.to.row, (endA t n nd.to.col nd.ref.col 702), nd.to.pr, nd.to.pc⟩ }.to)
  rw [hg2] at HG2
  dsimp only at HG2
  clear hg2
  clear hr hs hq hg
  generalize endA t n nd.ref.col nd.to.col 702 = L1 at *
  generalize endA t n nd.to.col nd.ref.col 702 = L2 at *
  have MB0 := hide (((Blk.new w #[.int .i64 3, .int .i64 dr, .int .i64 dc, .int .i64 t, .int .i64 n] 64).alloc (exO nd (.slice a len cap))).alloc (exO nd0 (.slice none 0 0)))
  have NB0 := hide ((Blk.new1 w (.cells #[.int .i64 3, .int .i64 dr, .int .i64 dc, .int .i64 t, .int .i64 n] 64) (exC nd (.slice a len cap)) 37).alloc (exO nd0 (.slice none 0 0)))
  have RB0 := hide (Blk.new2 w (.cells #[.int .i64 3, .int .i64 dr, .int .i64 dc, .int .i64 t, .int .i64 n] 64) (exO nd (.slice a len cap)) (exC nd0 (.slice none 0 0)) 37)
  have B0 := hide (step (step (step (Below.refl w.heap.size w) (.cells #[.int .i64 3, .int .i64 dr, .int .i64 dc, .int .i64 t, .int .i64 n] 64)) (exO nd (.slice a len cap))) (exO nd0 (.slice none 0 0)))
  obtain ⟨w0, hw0⟩ : ∃ w0, ((w.alloc (.cells #[.int .i64 3, .int .i64 dr, .int .i64 dc, .int .i64 t, .int .i64 n] 64)).alloc (exO nd (.slice a len cap))).alloc (.cells #[.int .i64 0, .int .i64 0, .int .i64 0, .string { data := #[] }, .int .i64 0, .int .i64 0, .bool false, .bool false, .int .i64 0, .int .i64 0, .bool false, .bool false, .int .i64 0, .slice none 0 0] 37) = w0 := ⟨_, rfl⟩
  replace MB0 : Hid (Blk w0 w.heap.size #[.int .i64 3, .int .i64 dr, .int .i64 dc, .int .i64 t, .int .i64 n] 64) := by rw [← hw0]; exact MB0
  replace NB0 : Hid (Blk w0 (w.heap.size + 1) (exC nd (.slice a len cap)) 37) := by rw [← hw0]; exact NB0
  replace RB0 : Hid (Blk w0 (w.heap.size + 1 + 1) (exC nd0 (.slice none 0 0)) 37) := by rw [← hw0]; exact RB0
  replace B0 : Hid (Below w.heap.size w w0) := by rw [← hw0]; exact B0
  have m0 : w0.cell? ⟨w.heap.size, 0, none⟩ = some (.int .i64 3) := MB0.out.at' 0
  have m1 : w0.cell? ⟨w.heap.size, 1, none⟩ = some (.int .i64 dr) := MB0.out.at' 1
  have m2 : w0.cell? ⟨w.heap.size, 2, none⟩ = some (.int .i64 dc) := MB0.out.at' 2
  have m3 : w0.cell? ⟨w.heap.size, 3, none⟩ = some (.int .i64 t) := MB0.out.at' 3
  have m4 : w0.cell? ⟨w.heap.size, 4, none⟩ = some (.int .i64 n) := MB0.out.at' 4
  obtain ⟨z0, z1, z2, z3, z4, z5, z6, z7, z8, z9, z10, z11, z12, z13⟩ := NB0.out.c14
  try dsimp only at z0 z1 z2 z3 z4 z5 z6 z7 z8 z9 z10 z11 z12 z13
  go_enter Try.func46, Try.ntmps46
  go_wp2_with fail
  clear hw0
  refine (HE.out w0).mono ?_
  rintro e w1 ⟨rfl, hb⟩
  have B1 := hide (next B0.out hb)
  have MB1 := hide (MB0.out.keep hb)
  have NB1 := hide (NB0.out.keep hb)
  have RB1 := hide (RB0.out.keep hb)
  clear hb
  clear m0 m1 m2 m3 m4 z0 z1 z2 z3 z4 z5 z6 z7 z8 z9 z10 z11 z12 z13
  have m0 : w1.cell? ⟨w.heap.size, 0, none⟩ = some (.int .i64 3) := MB1.out.at' 0
  have m1 : w1.cell? ⟨w.heap.size, 1, none⟩ = some (.int .i64 dr) := MB1.out.at' 1
  have m2 : w1.cell? ⟨w.heap.size, 2, none⟩ = some (.int .i64 dc) := MB1.out.at' 2
  have m3 : w1.cell? ⟨w.heap.size, 3, none⟩ = some (.int .i64 t) := MB1.out.at' 3
  have m4 : w1.cell? ⟨w.heap.size, 4, none⟩ = some (.int .i64 n) := MB1.out.at' 4
  obtain ⟨z0, z1, z2, z3, z4, z5, z6, z7, z8, z9, z10, z11, z12, z13⟩ := NB1.out.c14
  try dsimp only at z0 z1 z2 z3 z4 z5 z6 z7 z8 z9 z10 z11 z12 z13
  have f4 := NB1.out.fr 5
  have f8 := NB1.out.fr 9
  go_wp2_with fail
  have B2 : Hid (Below w.heap.size w ((w1.setCell ⟨w.heap.size + 1, 5, none⟩ (.int .i64 L1)).setCell ⟨w.heap.size + 1, 9, none⟩ (.int .i64 L2))) := hide ((B1.out.setCell (p := ⟨w.heap.size + 1, 5, none⟩) (by simp) _).setCell (p := ⟨w.heap.size + 1, 9, none⟩) (by simp) _)
  have MB2 : Hid (Blk ((w1.setCell ⟨w.heap.size + 1, 5, none⟩ (.int .i64 L1)).setCell ⟨w.heap.size + 1, 9, none⟩ (.int .i64 L2)) w.heap.size #[.int .i64 3, .int .i64 dr, .int .i64 dc, .int .i64 t, .int .i64 n] 64) := hide (blk_other (blk_other MB1.out (by omega)) (by omega))
  have NB2 : Hid (Blk ((w1.setCell ⟨w.heap.size + 1, 5, none⟩ (.int .i64 L1)).setCell ⟨w.heap.size + 1, 9, none⟩ (.int .i64 L2)) (w.heap.size + 1) (exC { nd with ref := ⟨nd.ref.row, L1, nd.ref.pr, nd.ref.pc⟩, to := ⟨nd.to.row, L2, nd.to.pr, nd.to.pc⟩ } (.slice a len cap)) 37) := hide ((NB1.out.set 5 (.int .i64 L1)).set 9 (.int .i64 L2))
  have RB2 : Hid (Blk ((w1.setCell ⟨w.heap.size + 1, 5, none⟩ (.int .i64 L1)).setCell ⟨w.heap.size + 1, 9, none⟩ (.int .i64 L2)) (w.heap.size + 1 + 1) (exC nd0 (.slice none 0 0)) 37) := hide (blk_other (blk_other RB1.out (by omega)) (by omega))
  obtain ⟨w2, hw2⟩ : ∃ w2, ((w1.setCell ⟨w.heap.size + 1, 5, none⟩ (.int .i64 L1)).setCell ⟨w.heap.size + 1, 9, none⟩ (.int .i64 L2)) = w2 := ⟨_, rfl⟩
  rw [hw2] at B2 MB2 NB2 RB2 ⊢
  clear hw2
  clear f4 f8
  clear m0 m1 m2 m3 m4 z0 z1 z2 z3 z4 z5 z6 z7 z8 z9 z10 z11 z12 z13
  refine (HG.out w2).mono ?_
  rintro e w3 ⟨rfl, hb⟩
  have B3 := hide (next B2.out hb)
  have MB3 := hide (MB2.out.keep hb)
  have NB3 := hide (NB2.out.keep hb)
  have RB3 := hide (RB2.out.keep hb)
  clear hb
  obtain ⟨-, -, -, -, y4, y5, y6, y7, y8, y9, y10, y11, -, -⟩ := NB3.out.c14
  dsimp only at y4 y5 y6 y7 y8 y9 y10 y11
  go_wp2_with fail
  refine (HG2.out w3).mono ?_
  rintro e w4 ⟨rfl, hb⟩
  have B4 := hide (next B3.out hb)
  have MB4 := hide (MB3.out.keep hb)
  have NB4 := hide (NB3.out.keep hb)
  have RB4 := hide (RB3.out.keep hb)
  clear hb
  clear y4 y5 y6 y7 y8 y9 y10 y11
  go_wp2_with (first
    | (refine wpList_load_blk rfl 37 _ rfl _ rfl _ (by with_reducible exact NB4.out) _ Try.underlying37 rfl (exC_info _ _) ?_)
    | (have hst := RB4.out; refine wpList_store_row rfl 37 _ _ rfl _ (exC { nd with ref := ⟨nd.ref.row, L1, nd.ref.pr, nd.ref.pc⟩, to := ⟨nd.to.row, L2, nd.to.pr, nd.to.pc⟩ } (.slice a len cap)) rfl rfl 37 _ hst (exC_info _ _) (by rfl) (exC_one _ _ _ _) ?_))
  have F3 := RB4.out.setRow (cs := exC { nd with ref := ⟨nd.ref.row, L1, nd.ref.pr, nd.ref.pc⟩, to := ⟨nd.to.row, L2, nd.to.pr, nd.to.pc⟩ } (.slice a len cap))
  refine bodyPost_ret (v := exV { nd with ref := ⟨nd.ref.row, L1, nd.ref.pr, nd.ref.pc⟩, to := ⟨nd.to.row, L2, nd.to.pr, nd.to.pc⟩ } (.slice a len cap)) (results_cell_row Try.results46 _ _ (w.heap.size + 1 + 1) 37 (exC { nd with ref := ⟨nd.ref.row, L1, nd.ref.pr, nd.ref.pc⟩, to := ⟨nd.to.row, L2, nd.to.pr, nd.to.pc⟩ } (.slice a len cap)) (0, 0) _ rfl F3 Try.underlying37 rfl (exC_info _ _)) rfl ?_
  exact ⟨rfl, below_setRow B4.out (by omega) _⟩
set_option maxHeartbeats 2000000 in
set_option maxRecDepth 100000 in
theorem double_3tf (dr dc t n : Int) (nd : Nd) (a : Option Addr) (len cap : Nat) (w : World) (hr : mayB nd.ref.row nd.ref.col = true) (hs : mayB nd.to.row nd.to.col = true) (t0 : 0 ≤ t) (t1 : t < 702) (hq : (outR t n nd.ref.col 702 && outR t n nd.to.col 702) = false) (hg : mayB { nd with ref := ⟨nd.ref.row, (endA t n nd.ref.col nd.to.col 702), nd.ref.pr, nd.ref.pc⟩, to := ⟨nd.to.row, (endA t n nd.to.col nd.ref.col 702), nd.to.pr, nd.to.pc⟩ }.ref.row { nd with ref := ⟨nd.ref.row, (endA t n nd.ref.col nd.to.col 702), nd.ref.pr, nd.ref.pc⟩, to := ⟨nd.to.row, (endA t n nd.to.col nd.ref.col 702), nd.to.pr, nd.to.pc⟩ }.ref.col = true) (hg2 : mayB { nd with ref := ⟨nd.ref.row, (endA t n nd.ref.col nd.to.col 702), nd.ref.pr, nd.ref.pc⟩, to := ⟨nd.to.row, (endA t n nd.to.col nd.ref.col 702), nd.to.pr, nd.to.pc⟩ }.to.row { nd with ref := ⟨nd.ref.row, (endA t n nd.ref.col nd.to.col 702), nd.ref.pr, nd.ref.pc⟩, to := ⟨nd.to.row, (endA t n nd.to.col nd.ref.col 702), nd.to.pr, nd.to.pc⟩ }.to.col = false) : Calls Try.prog 46 #[mvV 3 dr dc t n, exV nd (.slice a len cap)] w fun e w' => e = .returned (exV lostN (.slice none 0 0)) ∧ Below w.heap.size w w' := by
  have hr := mayB_iff.1 hr
  have hs := mayB_iff.1 hs
  have HE := hide (rends_no 3 dr dc t n nd.ref.col nd.to.col 702 t0 t1 (by omega) (by omega) (by omega) (by omega) (by omega) (by omega) hq)
  have HG := hide (ron_any { nd with ref := ⟨nd.ref.row, (endA t n nd.ref.col nd.to.col 702), nd.ref.pr, nd.ref.pc⟩, to := ⟨nd.to.row, (endA t n nd.to.col nd.ref.col 702), nd.to.pr, nd.to.pc⟩ }.ref)
  rw [hg] at HG
  dsimp only at HG
  have HG2 := hide (ron_any { nd with ref := ⟨nd.ref.row, (endA t n nd.ref.col nd.to.col 702), nd.ref.pr, nd.ref.pc⟩, to := ⟨nd.to.row, (endA t n nd.to.col nd.ref.col 702), nd.to.pr, nd.to.pc⟩ }.to)
  rw [hg2] at HG2
  dsimp only at HG2
  clear hg2
  clear hr hs hq hg
  generalize endA t n nd.ref.col nd.to.col 702 = L1 at *
  generalize endA t n nd.to.col nd.ref.col 702 = L2 at *
  have MB0 := hide (((Blk.new w #[.int .i64 3, .int .i64 dr, .int .i64 dc, .int .i64 t, .int .i64 n] 64).alloc (exO nd (.slice a len cap))).alloc (exO nd0 (.slice none 0 0)))
  have NB0 := hide ((Blk.new1 w (.cells #[.int .i64 3, .int .i64 dr, .int .i64 dc, .int .i64 t, .int .i64 n] 64) (exC nd (.slice a len cap)) 37).alloc (exO nd0 (.slice none 0 0)))
  have RB0 := hide (Blk.new2 w (.cells #[.int .i64 3, .int .i64 dr, .int .i64 dc, .int .i64 t, .int .i64 n] 64) (exO nd (.slice a len cap)) (exC nd0 (.slice none 0 0)) 37)
  have B0 := hide (step (step (step (Below.refl w.heap.size w) (.cells #[.int .i64 3, .int .i64 dr, .int .i64 dc, .int .i64 t, .int .i64 n] 64)) (exO nd (.slice a len cap))) (exO nd0 (.slice none 0 0)))
  obtain ⟨w0, hw0⟩ : ∃ w0, ((w.alloc (.cells #[.int .i64 3, .int .i64 dr, .int .i64 dc, .int .i64 t, .int .i64 n] 64)).alloc (exO nd (.slice a len cap))).alloc (.cells #[.int .i64 0, .int .i64 0, .int .i64 0, .string { data := #[] }, .int .i64 0, .int .i64 0, .bool false, .bool false, .int .i64 0, .int .i64 0, .bool false, .bool false, .int .i64 0, .slice none 0 0] 37) = w0 := ⟨_, rfl⟩
  replace MB0 : Hid (Blk w0 w.heap.size #[.int .i64 3, .int .i64 dr, .int .i64 dc, .int .i64 t, .int .i64 n] 64) := by rw [← hw0]; exact MB0
  replace NB0 : Hid (Blk w0 (w.heap.size + 1) (exC nd (.slice a len cap)) 37) := by rw [← hw0]; exact NB0
  replace RB0 : Hid (Blk w0 (w.heap.size + 1 + 1) (exC nd0 (.slice none 0 0)) 37) := by rw [← hw0]; exact RB0
  replace B0 : Hid (Below w.heap.size w w0) := by rw [← hw0]; exact B0
  have m0 : w0.cell? ⟨w.heap.size, 0, none⟩ = some (.int .i64 3) := MB0.out.at' 0
  have m1 : w0.cell? ⟨w.heap.size, 1, none⟩ = some (.int .i64 dr) := MB0.out.at' 1
  have m2 : w0.cell? ⟨w.heap.size, 2, none⟩ = some (.int .i64 dc) := MB0.out.at' 2
  have m3 : w0.cell? ⟨w.heap.size, 3, none⟩ = some (.int .i64 t) := MB0.out.at' 3
  have m4 : w0.cell? ⟨w.heap.size, 4, none⟩ = some (.int .i64 n) := MB0.out.at' 4
  obtain ⟨z0, z1, z2, z3, z4, z5, z6, z7, z8, z9, z10, z11, z12, z13⟩ := NB0.out.c14
  try dsimp only at z0 z1 z2 z3 z4 z5 z6 z7 z8 z9 z10 z11 z12 z13
  go_enter Try.func46, Try.ntmps46
  go_wp2_with fail
  clear hw0
  refine (HE.out w0).mono ?_
  rintro e w1 ⟨rfl, hb⟩
  have B1 := hide (next B0.out hb)
  have MB1 := hide (MB0.out.keep hb)
  have NB1 := hide (NB0.out.keep hb)
  have RB1 := hide (RB0.out.keep hb)
  clear hb
  clear m0 m1 m2 m3 m4 z0 z1 z2 z3 z4 z5 z6 z7 z8 z9 z10 z11 z12 z13
  have m0 : w1.cell? ⟨w.heap.size, 0, none⟩ = some (.int .i64 3) := MB1.out.at' 0
  have m1 : w1.cell? ⟨w.heap.size, 1, none⟩ = some (.int .i64 dr) := MB1.out.at' 1
  have m2 : w1.cell? ⟨w.heap.size, 2, none⟩ = some (.int .i64 dc) := MB1.out.at' 2
  have m3 : w1.cell? ⟨w.heap.size, 3, none⟩ = some (.int .i64 t) := MB1.out.at' 3
  have m4 : w1.cell? ⟨w.heap.size, 4, none⟩ = some (.int .i64 n) := MB1.out.at' 4
  obtain ⟨z0, z1, z2, z3, z4, z5, z6, z7, z8, z9, z10, z11, z12, z13⟩ := NB1.out.c14
  try dsimp only at z0 z1 z2 z3 z4 z5 z6 z7 z8 z9 z10 z11 z12 z13
  have f4 := NB1.out.fr 5
  have f8 := NB1.out.fr 9
  go_wp2_with fail
  have B2 : Hid (Below w.heap.size w ((w1.setCell ⟨w.heap.size + 1, 5, none⟩ (.int .i64 L1)).setCell ⟨w.heap.size + 1, 9, none⟩ (.int .i64 L2))) := hide ((B1.out.setCell (p := ⟨w.heap.size + 1, 5, none⟩) (by simp) _).setCell (p := ⟨w.heap.size + 1, 9, none⟩) (by simp) _)
  have MB2 : Hid (Blk ((w1.setCell ⟨w.heap.size + 1, 5, none⟩ (.int .i64 L1)).setCell ⟨w.heap.size + 1, 9, none⟩ (.int .i64 L2)) w.heap.size #[.int .i64 3, .int .i64 dr, .int .i64 dc, .int .i64 t, .int .i64 n] 64) := hide (blk_other (blk_other MB1.out (by omega)) (by omega))
  have NB2 : Hid (Blk ((w1.setCell ⟨w.heap.size + 1, 5, none⟩ (.int .i64 L1)).setCell ⟨w.heap.size + 1, 9, none⟩ (.int .i64 L2)) (w.heap.size + 1) (exC { nd with ref := ⟨nd.ref.row, L1, nd.ref.pr, nd.ref.pc⟩, to := ⟨nd.to.row, L2, nd.to.pr, nd.to.pc⟩ } (.slice a len cap)) 37) := hide ((NB1.out.set 5 (.int .i64 L1)).set 9 (.int .i64 L2))
  have RB2 : Hid (Blk ((w1.setCell ⟨w.heap.size + 1, 5, none⟩ (.int .i64 L1)).setCell ⟨w.heap.size + 1, 9, none⟩ (.int .i64 L2)) (w.heap.size + 1 + 1) (exC nd0 (.slice none 0 0)) 37) := hide (blk_other (blk_other RB1.out (by omega)) (by omega))
  obtain ⟨w2, hw2⟩ : ∃ w2, ((w1.setCell ⟨w.heap.size + 1, 5, none⟩ (.int .i64 L1)).setCell ⟨w.heap.size + 1, 9, none⟩ (.int .i64 L2)) = w2 := ⟨_, rfl⟩
  rw [hw2] at B2 MB2 NB2 RB2 ⊢
  clear hw2
  clear f4 f8
  clear m0 m1 m2 m3 m4 z0 z1 z2 z3 z4 z5 z6 z7 z8 z9 z10 z11 z12 z13
  refine (HG.out w2).mono ?_
  rintro e w3 ⟨rfl, hb⟩
  have B3 := hide (next B2.out hb)
  have MB3 := hide (MB2.out.keep hb)
  have NB3 := hide (NB2.out.keep hb)
  have RB3 := hide (RB2.out.keep hb)
  clear hb
  obtain ⟨-, -, -, -, y4, y5, y6, y7, y8, y9, y10, y11, -, -⟩ := NB3.out.c14
  dsimp only at y4 y5 y6 y7 y8 y9 y10 y11
  go_wp2_with fail
  refine (HG2.out w3).mono ?_
  rintro e w4 ⟨rfl, hb⟩
  have B4 := hide (next B3.out hb)
  have MB4 := hide (MB3.out.keep hb)
  have NB4 := hide (NB3.out.keep hb)
  have RB4 := hide (RB3.out.keep hb)
  clear hb
  clear y4 y5 y6 y7 y8 y9 y10 y11
  go_wp2_with fail
  refine (rlost_any w4).mono ?_
  rintro e w5 ⟨rfl, hb⟩
  have B5 := hide (next B4.out hb)
  have MB5 := hide (MB4.out.keep hb)
  have NB5 := hide (NB4.out.keep hb)
  have RB5 := hide (RB4.out.keep hb)
  clear hb
  go_wp2_with (have hst := RB5.out; refine wpList_store_row rfl 37 _ _ rfl _ (exC lostN (.slice none 0 0)) rfl rfl 37 _ hst (exC_info _ _) (by rfl) (exC_one _ _ _ _) ?_)
  have F3 := RB5.out.setRow (cs := exC lostN (.slice none 0 0))
  refine bodyPost_ret (v := exV lostN (.slice none 0 0)) (results_cell_row Try.results46 _ _ (w.heap.size + 1 + 1) 37 (exC lostN (.slice none 0 0)) (0, 0) _ rfl F3 Try.underlying37 rfl (exC_info _ _)) rfl ?_
  exact ⟨rfl, below_setRow B5.out (by omega) _⟩
set_option maxHeartbeats 2000000 in
set_option maxRecDepth 100000 in
theorem double_3f (dr dc t n : Int) (nd : Nd) (a : Option Addr) (len cap : Nat) (w : World) (hr : mayB nd.ref.row nd.ref.col = true) (hs : mayB nd.to.row nd.to.col = true) (t0 : 0 ≤ t) (t1 : t < 702) (hq : (outR t n nd.ref.col 702 && outR t n nd.to.col 702) = false) (hg : mayB { nd with ref := ⟨nd.ref.row, (endA t n nd.ref.col nd.to.col 702), nd.ref.pr, nd.ref.pc⟩, to := ⟨nd.to.row, (endA t n nd.to.col nd.ref.col 702), nd.to.pr, nd.to.pc⟩ }.ref.row { nd with ref := ⟨nd.ref.row, (endA t n nd.ref.col nd.to.col 702), nd.ref.pr, nd.ref.pc⟩, to := ⟨nd.to.row, (endA t n nd.to.col nd.ref.col 702), nd.to.pr, nd.to.pc⟩ }.ref.col = false) : Calls Try.prog 46 #[mvV 3 dr dc t n, exV nd (.slice a len cap)] w fun e w' => e = .returned (exV lostN (.slice none 0 0)) ∧ Below w.heap.size w w' := by
  have hr := mayB_iff.1 hr
  have hs := mayB_iff.1 hs
  have HE := hide (rends_no 3 dr dc t n nd.ref.col nd.to.col 702 t0 t1 (by omega) (by omega) (by omega) (by omega) (by omega) (by omega) hq)
  have HG := hide (ron_any { nd with ref := ⟨nd.ref.row, (endA t n nd.ref.col nd.to.col 702), nd.ref.pr, nd.ref.pc⟩, to := ⟨nd.to.row, (endA t n nd.to.col nd.ref.col 702), nd.to.pr, nd.to.pc⟩ }.ref)
  rw [hg] at HG
  dsimp only at HG
  clear hr hs hq hg
  generalize endA t n nd.ref.col nd.to.col 702 = L1 at *
  generalize endA t n nd.to.col nd.ref.col 702 = L2 at *
  have MB0 := hide (((Blk.new w #[.int .i64 3, .int .i64 dr, .int .i64 dc, .int .i64 t, .int .i64 n] 64).alloc (exO nd (.slice a len cap))).alloc (exO nd0 (.slice none 0 0)))
  have NB0 := hide ((Blk.new1 w (.cells #[.int .i64 3, .int .i64 dr, .int .i64 dc, .int .i64 t, .int .i64 n] 64) (exC nd (.slice a len cap)) 37).alloc (exO nd0 (.slice none 0 0)))
  have RB0 := hide (Blk.new2 w (.cells #[.int .i64 3, .int .i64 dr, .int .i64 dc, .int .i64 t, .int .i64 n] 64) (exO nd (.slice a len cap)) (exC nd0 (.slice none 0 0)) 37)
  have B0 := hide (step (step (step (Below.refl w.heap.size w) (.cells #[.int .i64 3, .int .i64 dr, .int .i64 dc, .int .i64 t, .int .i64 n] 64)) (exO nd (.slice a len cap))) (exO nd0 (.slice none 0 0)))
  obtain ⟨w0, hw0⟩ : ∃ w0, ((w.alloc (.cells #[.int .i64 3, .int .i64 dr, .int .i64 dc, .int .i64 t, .int .i64 n] 64)).alloc (exO nd (.slice a len cap))).alloc (.cells #[.int .i64 0, .int .i64 0, .int .i64 0, .string { data := #[] }, .int .i64 0, .int .i64 0, .bool false, .bool false, .int .i64 0, .int .i64 0, .bool false, .bool false, .int .i64 0, .slice none 0 0] 37) = w0 := ⟨_, rfl⟩
  replace MB0 : Hid (Blk w0 w.heap.size #[.int .i64 3, .int .i64 dr, .int .i64 dc, .int .i64 t, .int .i64 n] 64) := by rw [← hw0]; exact MB0
  replace NB0 : Hid (Blk w0 (w.heap.size + 1) (exC nd (.slice a len cap)) 37) := by rw [← hw0]; exact NB0
  replace RB0 : Hid (Blk w0 (w.heap.size + 1 + 1) (exC nd0 (.slice none 0 0)) 37) := by rw [← hw0]; exact RB0
  replace B0 : Hid (Below w.heap.size w w0) := by rw [← hw0]; exact B0
  have m0 : w0.cell? ⟨w.heap.size, 0, none⟩ = some (.int .i64 3) := MB0.out.at' 0
  have m1 : w0.cell? ⟨w.heap.size, 1, none⟩ = some (.int .i64 dr) := MB0.out.at' 1
  have m2 : w0.cell? ⟨w.heap.size, 2, none⟩ = some (.int .i64 dc) := MB0.out.at' 2
  have m3 : w0.cell? ⟨w.heap.size, 3, none⟩ = some (.int .i64 t) := MB0.out.at' 3
  have m4 : w0.cell? ⟨w.heap.size, 4, none⟩ = some (.int .i64 n) := MB0.out.at' 4
  obtain ⟨z0, z1, z2, z3, z4, z5, z6, z7, z8, z9, z10, z11, z12, z13⟩ := NB0.out.c14
  try dsimp only at z0 z1 z2 z3 z4 z5 z6 z7 z8 z9 z10 z11 z12 z13
  go_enter Try.func46, Try.ntmps46
  go_wp2_with fail
  clear hw0
  refine (HE.out w0).mono ?_
  rintro e w1 ⟨rfl, hb⟩
  have B1 := hide (next B0.out hb)
  have MB1 := hide (MB0.out.keep hb)
  have NB1 := hide (NB0.out.keep hb)
  have RB1 := hide (RB0.out.keep hb)
  clear hb
  clear m0 m1 m2 m3 m4 z0 z1 z2 z3 z4 z5 z6 z7 z8 z9 z10 z11 z12 z13
  have m0 : w1.cell? ⟨w.heap.size, 0, none⟩ = some (.int .i64 3) := MB1.out.at' 0
  have m1 : w1.cell? ⟨w.heap.size, 1, none⟩ = some (.int .i64 dr) := MB1.out.at' 1
  have m2 : w1.cell? ⟨w.heap.size, 2, none⟩ = some (.int .i64 dc) := MB1.out.at' 2
  have m3 : w1.cell? ⟨w.heap.size, 3, none⟩ = some (.int .i64 t) := MB1.out.at' 3
  have m4 : w1.cell? ⟨w.heap.size, 4, none⟩ = some (.int .i64 n) := MB1.out.at' 4
  obtain ⟨z0, z1, z2, z3, z4, z5, z6, z7, z8, z9, z10, z11, z12, z13⟩ := NB1.out.c14
  try dsimp only at z0 z1 z2 z3 z4 z5 z6 z7 z8 z9 z10 z11 z12 z13
  have f4 := NB1.out.fr 5
  have f8 := NB1.out.fr 9
  go_wp2_with fail
  have B2 : Hid (Below w.heap.size w ((w1.setCell ⟨w.heap.size + 1, 5, none⟩ (.int .i64 L1)).setCell ⟨w.heap.size + 1, 9, none⟩ (.int .i64 L2))) := hide ((B1.out.setCell (p := ⟨w.heap.size + 1, 5, none⟩) (by simp) _).setCell (p := ⟨w.heap.size + 1, 9, none⟩) (by simp) _)
  have MB2 : Hid (Blk ((w1.setCell ⟨w.heap.size + 1, 5, none⟩ (.int .i64 L1)).setCell ⟨w.heap.size + 1, 9, none⟩ (.int .i64 L2)) w.heap.size #[.int .i64 3, .int .i64 dr, .int .i64 dc, .int .i64 t, .int .i64 n] 64) := hide (blk_other (blk_other MB1.out (by omega)) (by omega))
  have NB2 : Hid (Blk ((w1.setCell ⟨w.heap.size + 1, 5, none⟩ (.int .i64 L1)).setCell ⟨w.heap.size + 1, 9, none⟩ (.int .i64 L2)) (w.heap.size + 1) (exC { nd with ref := ⟨nd.ref.row, L1, nd.ref.pr, nd.ref.pc⟩, to := ⟨nd.to.row, L2, nd.to.pr, nd.to.pc⟩ } (.slice a len cap)) 37) := hide ((NB1.out.set 5 (.int .i64 L1)).set 9 (.int .i64 L2))
  have RB2 : Hid (Blk ((w1.setCell ⟨w.heap.size + 1, 5, none⟩ (.int .i64 L1)).setCell ⟨w.heap.size + 1, 9, none⟩ (.int .i64 L2)) (w.heap.size + 1 + 1) (exC nd0 (.slice none 0 0)) 37) := hide (blk_other (blk_other RB1.out (by omega)) (by omega))
  obtain ⟨w2, hw2⟩ : ∃ w2, ((w1.setCell ⟨w.heap.size + 1, 5, none⟩ (.int .i64 L1)).setCell ⟨w.heap.size + 1, 9, none⟩ (.int .i64 L2)) = w2 := ⟨_, rfl⟩
  rw [hw2] at B2 MB2 NB2 RB2 ⊢
  clear hw2
  clear f4 f8
  clear m0 m1 m2 m3 m4 z0 z1 z2 z3 z4 z5 z6 z7 z8 z9 z10 z11 z12 z13
  refine (HG.out w2).mono ?_
  rintro e w3 ⟨rfl, hb⟩
  have B3 := hide (next B2.out hb)
  have MB3 := hide (MB2.out.keep hb)
  have NB3 := hide (NB2.out.keep hb)
  have RB3 := hide (RB2.out.keep hb)
  clear hb
  go_wp2_with fail
  refine (rlost_any w3).mono ?_
  rintro e w4 ⟨rfl, hb⟩
  have B4 := hide (next B3.out hb)
  have MB4 := hide (MB3.out.keep hb)
  have NB4 := hide (NB3.out.keep hb)
  have RB4 := hide (RB3.out.keep hb)
  clear hb
  go_wp2_with (have hst := RB4.out; refine wpList_store_row rfl 37 _ _ rfl _ (exC lostN (.slice none 0 0)) rfl rfl 37 _ hst (exC_info _ _) (by rfl) (exC_one _ _ _ _) ?_)
  have F3 := RB4.out.setRow (cs := exC lostN (.slice none 0 0))
  refine bodyPost_ret (v := exV lostN (.slice none 0 0)) (results_cell_row Try.results46 _ _ (w.heap.size + 1 + 1) 37 (exC lostN (.slice none 0 0)) (0, 0) _ rfl F3 Try.underlying37 rfl (exC_info _ _)) rfl ?_
  exact ⟨rfl, below_setRow B4.out (by omega) _⟩
end Go.Proofs.Ytiajoppbgebnpaa
namespace Go.Proofs.Ytiajoppbgebnpaa
open Go.RowKit Go.Sort
set_option linter.unusedVariables false

/-- Two numbers that are one, or both off the line. -/
def Eqv (most x y : Int) : Prop := ((0 ≤ x ∧ x < most) ↔ (0 ≤ y ∧ y < most)) ∧ (0 ≤ y → y < most → x = y)
theorem Eqv.refl (most x : Int) : Eqv most x x := ⟨Iff.rfl, fun _ _ => rfl⟩
theorem eqv_moved {a d most : Int} (h0 : 0 ≤ a) (h1 : a < most) (hm : most ≤ 65536) : Eqv most (movedR a d most) (stp a d) := by
  unfold Eqv movedR stp
  split
  · omega
  · split
    · omega
    · split
      · omega
      · split <;> omega
theorem lnow_neg {x y t n most : Int} (hn : n < 0) (h0 : 0 ≤ x) (h1 : x < most) (y0 : 0 ≤ y) (y1 : y < most) (t0 : 0 ≤ t) (t1 : t < most) (hm : most ≤ 65536) :
    lnow x y t n = if x < t then x else if t + goneR n most ≤ x then x - goneR n most else if y < t then t - 1 else if t + goneR n most ≤ y then t else -1 := by
  unfold lnow goneR stp
  by_cases c1 : x < t
  · rw [if_pos c1, if_pos c1]
  · rw [if_neg c1, if_neg c1, if_neg (by omega)]
    by_cases c2 : n ≤ -most
    · rw [if_pos c2, if_neg (show ¬ t - max n (-65536) ≤ x by omega), if_neg (show ¬ t + most ≤ x by omega)]
      by_cases c3 : y < t
      · rw [if_pos c3, if_pos c3]
      · rw [if_neg c3, if_neg c3, if_neg (show ¬ t - max n (-65536) ≤ y by omega), if_neg (show ¬ t + most ≤ y by omega)]
    · rw [if_neg c2]
      have e : t - max n (-65536) = t + -n := by omega
      rw [e]
      by_cases c4 : t + -n ≤ x
      · rw [if_pos c4, if_pos c4]; omega
      · rw [if_neg c4, if_neg c4]
theorem eqv_single {x t n most : Int} (h0 : 0 ≤ x) (h1 : x < most) (t0 : 0 ≤ t) (t1 : t < most) (hm : most ≤ 65536) :
    (outR t n x most = true → lnow x x t n = -1) ∧ (outR t n x most = false → Eqv most (lineR t n x most) (lnow x x t n)) := by
  refine ⟨fun h => ?_, fun h => ?_⟩
  · obtain ⟨a1, a2, a3⟩ := out_iff.1 h
    rw [lnow_neg a1 h0 h1 h0 h1 t0 t1 hm, if_neg (by omega), if_neg (by omega), if_neg (by omega), if_neg (by omega)]
  · by_cases c : n < 0
    · have hno : ¬ (n < 0 ∧ t ≤ x ∧ x < t + goneR n most) := fun q => by rw [out_iff.2 q] at h; cases h
      rw [lnow_neg c h0 h1 h0 h1 t0 t1 hm]
      unfold lineR
      by_cases c1 : x < t
      · rw [if_pos c1, if_pos c1]; exact Eqv.refl _ _
      · rw [if_neg c1, if_neg c1, if_pos c, if_pos (by omega)]; exact Eqv.refl _ _
    · unfold lineR lnow
      by_cases c1 : x < t
      · rw [if_pos c1, if_pos c1]; exact Eqv.refl _ _
      · rw [if_neg c1, if_neg c1, if_neg c, if_pos (by omega)]; exact eqv_moved h0 h1 hm
theorem eqv_double {x y t n most : Int} (h0 : 0 ≤ x) (h1 : x < most) (y0 : 0 ≤ y) (y1 : y < most) (t0 : 0 ≤ t) (t1 : t < most) (hm : most ≤ 65536) :
    ((outR t n x most && outR t n y most) = true → lnow x y t n = -1) ∧ ((outR t n x most && outR t n y most) = false → Eqv most (endA t n x y most) (lnow x y t n)) := by
  refine ⟨fun h => ?_, fun h => ?_⟩
  · rw [Bool.and_eq_true] at h
    obtain ⟨a1, a2, a3⟩ := out_iff.1 h.1
    obtain ⟨b1, b2, b3⟩ := out_iff.1 h.2
    rw [lnow_neg a1 h0 h1 y0 y1 t0 t1 hm, if_neg (by omega), if_neg (by omega), if_neg (by omega), if_neg (by omega)]
  · cases qx : outR t n x most
    · have e : endA t n x y most = lineR t n x most := by unfold endA; rw [qx]; rfl
      rw [e]
      have hs := (eqv_single (x := x) (t := t) (n := n) h0 h1 t0 t1 hm).2 qx
      have hl : lnow x y t n = lnow x x t n := by
        by_cases c : n < 0
        · have hno : ¬ (n < 0 ∧ t ≤ x ∧ x < t + goneR n most) := fun q => by rw [out_iff.2 q] at qx; cases qx
          rw [lnow_neg c h0 h1 y0 y1 t0 t1 hm, lnow_neg c h0 h1 h0 h1 t0 t1 hm]
          by_cases c1 : x < t
          · rw [if_pos c1, if_pos c1]
          · rw [if_neg c1, if_neg c1, if_pos (by omega), if_pos (by omega)]
        · unfold lnow
          by_cases c1 : x < t
          · rw [if_pos c1, if_pos c1]
          · rw [if_neg c1, if_neg c1, if_pos (show 0 ≤ n by omega), if_pos (show 0 ≤ n by omega)]
      rw [hl]; exact hs
    · rw [qx, Bool.true_and] at h
      obtain ⟨a1, a2, a3⟩ := out_iff.1 qx
      have hno : ¬ (n < 0 ∧ t ≤ y ∧ y < t + goneR n most) := fun q => by rw [out_iff.2 q] at h; cases h
      have hg := gone_bd (most := most) a1 (by omega)
      have e : endA t n x y most = lineR t n (nearR t n x y most) most := by unfold endA; rw [qx]; rfl
      rw [e, lnow_neg a1 h0 h1 y0 y1 t0 t1 hm, if_neg (by omega), if_neg (by omega)]
      unfold nearR lineR
      by_cases c1 : y < t
      · rw [if_neg (show ¬ x < y by omega), if_pos (show t - 1 < t by omega), if_pos c1]; exact Eqv.refl _ _
      · rw [if_pos (show x < y by omega), if_neg (show ¬ t + goneR n most < t by omega), if_pos a1, if_neg c1, if_pos (by omega)]
        rw [show t + goneR n most - goneR n most = t by omega]; exact Eqv.refl _ _
theorem may_eqv_row {x y c : Int} (h : Eqv 65536 x y) : mayB x c = mayB y c ∧ (mayB y c = true → x = y) := by
  refine ⟨?_, fun q => ?_⟩
  · rw [Bool.eq_iff_iff, mayB_iff, mayB_iff]; have := h.1; omega
  · have := mayB_iff.1 q; exact h.2 this.1 this.2.1
theorem may_eqv_col {x y r : Int} (h : Eqv 702 x y) : mayB r x = mayB r y ∧ (mayB r y = true → x = y) := by
  refine ⟨?_, fun q => ?_⟩
  · rw [Bool.eq_iff_iff, mayB_iff, mayB_iff]; have := h.1; omega
  · have := mayB_iff.1 q; exact h.2 this.2.2.1 this.2.2.2
theorem may_eqv_pas {dr dc : Int} {r p : Rf} (hr : mayB r.row r.col = true) : mayB (rfM dr dc r).row (rfM dr dc r).col = mayB (pasR dr dc r p).row (pasR dr dc r p).col ∧ (mayB (pasR dr dc r p).row (pasR dr dc r p).col = true → rfM dr dc r = pasR dr dc r p) := by
  have hr := mayB_iff.1 hr
  have e1 : Eqv 65536 (rfM dr dc r).row (pasR dr dc r p).row := by
    unfold rfM pasR; dsimp only
    cases r.pr
    · exact eqv_moved hr.1 hr.2.1 (by omega)
    · exact Eqv.refl _ _
  have e2 : Eqv 702 (rfM dr dc r).col (pasR dr dc r p).col := by
    unfold rfM pasR; dsimp only
    cases r.pc
    · exact eqv_moved hr.2.2.1 hr.2.2.2 (by omega)
    · exact Eqv.refl _ _
  refine ⟨?_, fun q => ?_⟩
  · rw [Bool.eq_iff_iff, mayB_iff, mayB_iff]; have := e1.1; have := e2.1; omega
  · have q := mayB_iff.1 q
    have a1 := e1.2 q.1 q.2.1
    have a2 := e2.2 q.2.2.1 q.2.2.2
    show Rf.mk (rfM dr dc r).row (rfM dr dc r).col r.pr r.pc = Rf.mk (pasR dr dc r p).row (pasR dr dc r p).col r.pr r.pc
    rw [a1, a2]
theorem node5_on {f : Mv} {nd : Nd} {s : Value} (h5 : nd.kind = 5) (h0 : nd.to = rf0) (hq : mayB (f nd.ref nd.ref).row (f nd.ref nd.ref).col = true) : movN f nd = { nd with ref := f nd.ref nd.ref } ∧ slM f nd s = s := by
  have hg : gridB (putN f nd) = true := by unfold putN gridB; rw [if_pos h5]; dsimp only; rw [hq, h0]; rfl
  refine ⟨?_, (slM_yes hg).1⟩
  rw [movN_5 f h5 h0, hq]; rfl
theorem node5_off {f : Mv} {nd : Nd} {s : Value} (h5 : nd.kind = 5) (h0 : nd.to = rf0) (hq : mayB (f nd.ref nd.ref).row (f nd.ref nd.ref).col = false) : movN f nd = lostN ∧ slM f nd s = .slice none 0 0 := by
  have hg : gridB (putN f nd) = false := by unfold putN gridB; rw [if_pos h5]; dsimp only; rw [hq]; rfl
  exact ⟨(slM_no (s := s) hg).2, (slM_no hg).1⟩
theorem node6_on {f : Mv} {nd : Nd} {s : Value} (h6 : nd.kind = 6) (hq : mayB (f nd.ref nd.to).row (f nd.ref nd.to).col = true) (hq2 : mayB (f nd.to nd.ref).row (f nd.to nd.ref).col = true) : movN f nd = { nd with ref := f nd.ref nd.to, to := f nd.to nd.ref } ∧ slM f nd s = s := by
  have hg : gridB (putN f nd) = true := by unfold putN gridB; rw [if_neg (by rw [h6]; decide), if_pos h6]; dsimp only; rw [hq, hq2]; rfl
  refine ⟨?_, (slM_yes hg).1⟩
  rw [movN_6 f h6, hq, hq2]; rfl
theorem node6_off {f : Mv} {nd : Nd} {s : Value} (h6 : nd.kind = 6) (hq : (mayB (f nd.ref nd.to).row (f nd.ref nd.to).col && mayB (f nd.to nd.ref).row (f nd.to nd.ref).col) = false) : movN f nd = lostN ∧ slM f nd s = .slice none 0 0 := by
  have hg : gridB (putN f nd) = false := by unfold putN gridB; rw [if_neg (by rw [h6]; decide), if_pos h6]; dsimp only; exact hq
  exact ⟨(slM_no (s := s) hg).2, (slM_no hg).1⟩
/-- What the move is. -/
def Mvd (K dr dc t n : Int) (f : Mv) : Prop := (K = 1 ∧ f = pasR dr dc) ∨ (K = 2 ∧ f = rowR t n ∧ 0 ≤ t ∧ t < 65536) ∨ (K = 3 ∧ f = colR t n ∧ 0 ≤ t ∧ t < 702)
theorem single_any {K dr dc t n : Int} {f : Mv} (hK : Mvd K dr dc t n f) (nd : Nd) (a : Option Addr) (len cap : Nat) (ht : toldB nd len = true) (h5 : nd.kind = 5) (w : World) :
    Calls Try.prog 45 #[mvV K dr dc t n, exV nd (.slice a len cap)] w fun e w' => e = .returned (exV (movN f nd) (slM f nd (.slice a len cap))) ∧ Below w.heap.size w w' := by
  obtain ⟨e, hm, rfl⟩ := shape5 ht h5
  have h0 : nd.to = rf0 := by rw [e]
  have hb := mayB_iff.1 hm
  rcases hK with ⟨rfl, rfl⟩ | ⟨rfl, rfl, t0, t1⟩ | ⟨rfl, rfl, t0, t1⟩
  · obtain ⟨q1, q2⟩ := may_eqv_pas (dr := dr) (dc := dc) (p := nd.ref) hm
    cases q : mayB (pasR dr dc nd.ref nd.ref).row (pasR dr dc nd.ref nd.ref).col
    · obtain ⟨p1, p2⟩ := node5_off (s := .slice a 0 cap) h5 h0 q
      rw [p1, p2]; exact single_1f dr dc t n nd a 0 cap w hm (q1.trans q)
    · obtain ⟨p1, p2⟩ := node5_on (s := .slice a 0 cap) h5 h0 q
      rw [p1, p2, ← q2 q]; exact single_1t dr dc t n nd a 0 cap w hm (q1.trans q)
  · obtain ⟨s1, s2⟩ := eqv_single (x := nd.ref.row) (t := t) (n := n) hb.1 hb.2.1 t0 t1 (by omega)
    cases qo : outR t n nd.ref.row 65536
    · obtain ⟨q1, q2⟩ := may_eqv_row (c := nd.ref.col) (s2 qo)
      cases q : mayB (lnow nd.ref.row nd.ref.row t n) nd.ref.col
      · obtain ⟨p1, p2⟩ := node5_off (f := rowR t n) (s := .slice a 0 cap) h5 h0 q
        rw [p1, p2]; exact single_2f dr dc t n nd a 0 cap w hm t0 t1 qo (q1.trans q)
      · obtain ⟨p1, p2⟩ := node5_on (f := rowR t n) (s := .slice a 0 cap) h5 h0 q
        have hx : rowR t n nd.ref nd.ref = ⟨lineR t n nd.ref.row 65536, nd.ref.col, nd.ref.pr, nd.ref.pc⟩ := by unfold rowR; rw [q2 q]
        rw [p1, p2, hx]; exact single_2t dr dc t n nd a 0 cap w hm t0 t1 qo (q1.trans q)
    · obtain ⟨p1, p2⟩ := node5_off (f := rowR t n) (s := .slice a 0 cap) h5 h0 (by show mayB (lnow nd.ref.row nd.ref.row t n) _ = false; rw [s1 qo]; rfl)
      rw [p1, p2]; exact single_2o dr dc t n nd a 0 cap w hm t0 t1 qo
  · obtain ⟨s1, s2⟩ := eqv_single (x := nd.ref.col) (t := t) (n := n) (most := 702) hb.2.2.1 hb.2.2.2 t0 t1 (by omega)
    cases qo : outR t n nd.ref.col 702
    · obtain ⟨q1, q2⟩ := may_eqv_col (r := nd.ref.row) (s2 qo)
      cases q : mayB nd.ref.row (lnow nd.ref.col nd.ref.col t n)
      · obtain ⟨p1, p2⟩ := node5_off (f := colR t n) (s := .slice a 0 cap) h5 h0 q
        rw [p1, p2]; exact single_3f dr dc t n nd a 0 cap w hm t0 t1 qo (q1.trans q)
      · obtain ⟨p1, p2⟩ := node5_on (f := colR t n) (s := .slice a 0 cap) h5 h0 q
        have hx : colR t n nd.ref nd.ref = ⟨nd.ref.row, lineR t n nd.ref.col 702, nd.ref.pr, nd.ref.pc⟩ := by unfold colR; rw [q2 q]
        rw [p1, p2, hx]; exact single_3t dr dc t n nd a 0 cap w hm t0 t1 qo (q1.trans q)
    · obtain ⟨p1, p2⟩ := node5_off (f := colR t n) (s := .slice a 0 cap) h5 h0 (by show mayB nd.ref.row (lnow nd.ref.col nd.ref.col t n) = false; rw [s1 qo]; cases qq : mayB nd.ref.row (-1); rfl; (have := mayB_iff.1 qq; omega))
      rw [p1, p2]; exact single_3o dr dc t n nd a 0 cap w hm t0 t1 qo
theorem double_any {K dr dc t n : Int} {f : Mv} (hK : Mvd K dr dc t n f) (nd : Nd) (a : Option Addr) (len cap : Nat) (ht : toldB nd len = true) (h6 : nd.kind = 6) (w : World) :
    Calls Try.prog 46 #[mvV K dr dc t n, exV nd (.slice a len cap)] w fun e w' => e = .returned (exV (movN f nd) (slM f nd (.slice a len cap))) ∧ Below w.heap.size w w' := by
  obtain ⟨e, hm, hm', rfl⟩ := shape6 ht h6
  have hb := mayB_iff.1 hm
  have hc := mayB_iff.1 hm'
  rcases hK with ⟨rfl, rfl⟩ | ⟨rfl, rfl, t0, t1⟩ | ⟨rfl, rfl, t0, t1⟩
  · obtain ⟨q1, q2⟩ := may_eqv_pas (dr := dr) (dc := dc) (p := nd.to) hm
    obtain ⟨q3, q4⟩ := may_eqv_pas (dr := dr) (dc := dc) (p := nd.ref) hm'
    cases q : mayB (pasR dr dc nd.ref nd.to).row (pasR dr dc nd.ref nd.to).col
    · obtain ⟨p1, p2⟩ := node6_off (f := pasR dr dc) (s := .slice a 0 cap) h6 (by rw [q]; rfl)
      rw [p1, p2]; exact double_1f dr dc t n nd a 0 cap w hm hm' (q1.trans q)
    · cases q' : mayB (pasR dr dc nd.to nd.ref).row (pasR dr dc nd.to nd.ref).col
      · obtain ⟨p1, p2⟩ := node6_off (f := pasR dr dc) (s := .slice a 0 cap) h6 (by rw [q, q']; rfl)
        rw [p1, p2]; exact double_1tf dr dc t n nd a 0 cap w hm hm' (q1.trans q) (q3.trans q')
      · obtain ⟨p1, p2⟩ := node6_on (s := .slice a 0 cap) h6 q q'
        rw [p1, p2, ← q2 q, ← q4 q']; exact double_1tt dr dc t n nd a 0 cap w hm hm' (q1.trans q) (q3.trans q')
  · obtain ⟨s1, s2⟩ := eqv_double (x := nd.ref.row) (y := nd.to.row) (t := t) (n := n) (most := 65536) hb.1 hb.2.1 hc.1 hc.2.1 t0 t1 (by omega)
    obtain ⟨r1, r2⟩ := eqv_double (x := nd.to.row) (y := nd.ref.row) (t := t) (n := n) (most := 65536) hc.1 hc.2.1 hb.1 hb.2.1 t0 t1 (by omega)
    cases qo : (outR t n nd.ref.row 65536 && outR t n nd.to.row 65536)
    · obtain ⟨q1, q2⟩ := may_eqv_row (c := nd.ref.col) (s2 qo)
      obtain ⟨q3, q4⟩ := may_eqv_row (c := nd.to.col) (r2 (by rw [Bool.and_comm]; exact qo))
      cases q : mayB (lnow nd.ref.row nd.to.row t n) nd.ref.col
      · obtain ⟨p1, p2⟩ := node6_off (f := rowR t n) (s := .slice a 0 cap) h6 (by show (mayB (lnow nd.ref.row nd.to.row t n) nd.ref.col && _) = false; rw [q]; rfl)
        rw [p1, p2]; exact double_2f dr dc t n nd a 0 cap w hm hm' t0 t1 qo (q1.trans q)
      · cases q' : mayB (lnow nd.to.row nd.ref.row t n) nd.to.col
        · obtain ⟨p1, p2⟩ := node6_off (f := rowR t n) (s := .slice a 0 cap) h6 (by show (mayB (lnow nd.ref.row nd.to.row t n) nd.ref.col && mayB (lnow nd.to.row nd.ref.row t n) nd.to.col) = false; rw [q, q']; rfl)
          rw [p1, p2]; exact double_2tf dr dc t n nd a 0 cap w hm hm' t0 t1 qo (q1.trans q) (q3.trans q')
        · obtain ⟨p1, p2⟩ := node6_on (f := rowR t n) (s := .slice a 0 cap) h6 q q'
          have hx : (rowR t n) nd.ref nd.to = ⟨endA t n nd.ref.row nd.to.row 65536, nd.ref.col, nd.ref.pr, nd.ref.pc⟩ := by unfold rowR; rw [q2 q]
          have hy : (rowR t n) nd.to nd.ref = ⟨endA t n nd.to.row nd.ref.row 65536, nd.to.col, nd.to.pr, nd.to.pc⟩ := by unfold rowR; rw [q4 q']
          rw [p1, p2, hx, hy]; exact double_2tt dr dc t n nd a 0 cap w hm hm' t0 t1 qo (q1.trans q) (q3.trans q')
    · obtain ⟨p1, p2⟩ := node6_off (f := rowR t n) (s := .slice a 0 cap) h6 (by have e : mayB (lnow nd.ref.row nd.to.row t n) nd.ref.col = false := (by rw [s1 qo]; rfl); show (mayB (lnow nd.ref.row nd.to.row t n) nd.ref.col && _) = false; rw [e]; rfl)
      rw [p1, p2]; exact double_2o dr dc t n nd a 0 cap w hm hm' t0 t1 qo
  · obtain ⟨s1, s2⟩ := eqv_double (x := nd.ref.col) (y := nd.to.col) (t := t) (n := n) (most := 702) hb.2.2.1 hb.2.2.2 hc.2.2.1 hc.2.2.2 t0 t1 (by omega)
    obtain ⟨r1, r2⟩ := eqv_double (x := nd.to.col) (y := nd.ref.col) (t := t) (n := n) (most := 702) hc.2.2.1 hc.2.2.2 hb.2.2.1 hb.2.2.2 t0 t1 (by omega)
    cases qo : (outR t n nd.ref.col 702 && outR t n nd.to.col 702)
    · obtain ⟨q1, q2⟩ := may_eqv_col (r := nd.ref.row) (s2 qo)
      obtain ⟨q3, q4⟩ := may_eqv_col (r := nd.to.row) (r2 (by rw [Bool.and_comm]; exact qo))
      cases q : mayB nd.ref.row (lnow nd.ref.col nd.to.col t n)
      · obtain ⟨p1, p2⟩ := node6_off (f := colR t n) (s := .slice a 0 cap) h6 (by show (mayB nd.ref.row (lnow nd.ref.col nd.to.col t n) && _) = false; rw [q]; rfl)
        rw [p1, p2]; exact double_3f dr dc t n nd a 0 cap w hm hm' t0 t1 qo (q1.trans q)
      · cases q' : mayB nd.to.row (lnow nd.to.col nd.ref.col t n)
        · obtain ⟨p1, p2⟩ := node6_off (f := colR t n) (s := .slice a 0 cap) h6 (by show (mayB nd.ref.row (lnow nd.ref.col nd.to.col t n) && mayB nd.to.row (lnow nd.to.col nd.ref.col t n)) = false; rw [q, q']; rfl)
          rw [p1, p2]; exact double_3tf dr dc t n nd a 0 cap w hm hm' t0 t1 qo (q1.trans q) (q3.trans q')
        · obtain ⟨p1, p2⟩ := node6_on (f := colR t n) (s := .slice a 0 cap) h6 q q'
          have hx : (colR t n) nd.ref nd.to = ⟨nd.ref.row, endA t n nd.ref.col nd.to.col 702, nd.ref.pr, nd.ref.pc⟩ := by unfold colR; rw [q2 q]
          have hy : (colR t n) nd.to nd.ref = ⟨nd.to.row, endA t n nd.to.col nd.ref.col 702, nd.to.pr, nd.to.pc⟩ := by unfold colR; rw [q4 q']
          rw [p1, p2, hx, hy]; exact double_3tt dr dc t n nd a 0 cap w hm hm' t0 t1 qo (q1.trans q) (q3.trans q')
    · obtain ⟨p1, p2⟩ := node6_off (f := colR t n) (s := .slice a 0 cap) h6 (by have e : mayB nd.ref.row (lnow nd.ref.col nd.to.col t n) = false := (by rw [s1 qo]; cases qq : mayB nd.ref.row (-1); rfl; (have := mayB_iff.1 qq; omega)); show (mayB nd.ref.row (lnow nd.ref.col nd.to.col t n) && _) = false; rw [e]; rfl)
      rw [p1, p2]; exact double_3o dr dc t n nd a 0 cap w hm hm' t0 t1 qo
end Go.Proofs.Ytiajoppbgebnpaa
