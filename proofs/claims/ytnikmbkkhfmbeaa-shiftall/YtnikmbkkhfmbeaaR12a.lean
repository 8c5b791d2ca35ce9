/- quadrilleref12: numbers on a line: moved, gone, out, line, near; on, lost. -/
import Derived.Test.YtnikmbkkhfmbeaaMn12
namespace Go.Proofs.Ytnikmbkkhfmbeaa
open Go.RowKit Go.Sort
set_option linter.unusedVariables false

abbrev mvV (k dr dc t n : Int) : Value := .agg #[.int .i64 k, .int .i64 dr, .int .i64 dc, .int .i64 t, .int .i64 n]
def movedR (a d most : Int) : Int := if most ≤ d then -1 else if d ≤ -most then -1 else if a + d < 0 then -1 else if most ≤ a + d then -1 else a + d
def goneR (n most : Int) : Int := if n ≤ -most then most else -n
def outR (t n a most : Int) : Bool := decide (n < 0) && decide (t ≤ a) && decide (a < t + goneR n most)
def lineR (t n a most : Int) : Int := if a < t then a else if n < 0 then a - goneR n most else movedR a n most
set_option maxHeartbeats 1000000 in
theorem rmoved_any (a d most : Int) (h1 : 0 ≤ a) (h2 : a ≤ 65536) (h3 : 1 ≤ most) (h4 : most ≤ 65536) (w : World) : Calls Try.prog 68 #[.int .i64 a, .int .i64 d, .int .i64 most] w fun e w' => e = .returned (.int .i64 (movedR a d most)) ∧ w' = w := by
  have wn := IntWalk.wrap64_in (-most) ⟨by omega, by omega⟩
  unfold movedR
  by_cases c1 : most ≤ d
  · rw [if_pos c1]
    go_enter Try.func68, Try.ntmps68
    go_wp2_with fail
    go_ret
    exact ⟨rfl, rfl⟩
  rw [if_neg c1]
  by_cases c2 : d ≤ -most
  · rw [if_pos c2]
    go_enter Try.func68, Try.ntmps68
    go_wp2_with fail
    go_ret
    exact ⟨rfl, rfl⟩
  rw [if_neg c2]
  have ws := IntWalk.wrap64_in (a + d) ⟨by omega, by omega⟩
  by_cases c3 : a + d < 0
  · rw [if_pos c3]
    go_enter Try.func68, Try.ntmps68
    go_wp2_with fail
    go_ret
    exact ⟨rfl, rfl⟩
  rw [if_neg c3]
  by_cases c4 : most ≤ a + d
  · rw [if_pos c4]
    go_enter Try.func68, Try.ntmps68
    go_wp2_with fail
    go_ret
    exact ⟨rfl, rfl⟩
  rw [if_neg c4]
  go_enter Try.func68, Try.ntmps68
  go_wp2_with fail
  go_ret
  exact ⟨rfl, rfl⟩
set_option maxHeartbeats 1000000 in
theorem rgone_any (k dr dc t n most : Int) (hn : n < 0) (h3 : 1 ≤ most) (h4 : most ≤ 65536) (w : World) : Calls Try.prog 69 #[mvV k dr dc t n, .int .i64 most] w fun e w' => e = .returned (.int .i64 (goneR n most)) ∧ Below w.heap.size w w' := by
  have wn := IntWalk.wrap64_in (-most) ⟨by omega, by omega⟩
  unfold goneR
  by_cases c1 : n ≤ -most
  · rw [if_pos c1]
    go_enter Try.func69, Try.ntmps69
    go_wp2_with fail
    go_ret
    exact ⟨rfl, by go_grown⟩
  rw [if_neg c1]
  have wm := IntWalk.wrap64_in (-n) ⟨by omega, by omega⟩
  go_enter Try.func69, Try.ntmps69
  go_wp2_with fail
  go_ret
  exact ⟨rfl, by go_grown⟩
theorem gone_bd {n most : Int} (hn : n < 0) (h3 : 1 ≤ most) : 1 ≤ goneR n most ∧ goneR n most ≤ most := by
  unfold goneR; split <;> omega
set_option maxHeartbeats 1000000 in
theorem rout_any (k dr dc t n a most : Int) (h1 : 0 ≤ t) (h2 : t ≤ 65536) (h3 : 1 ≤ most) (h4 : most ≤ 65536) (w : World) : Calls Try.prog 58 #[mvV k dr dc t n, .int .i64 a, .int .i64 most] w fun e w' => e = .returned (.bool (outR t n a most)) ∧ Below w.heap.size w w' := by
  have M0 := Blk.new w #[.int .i64 k, .int .i64 dr, .int .i64 dc, .int .i64 t, .int .i64 n] 64
  have B0 := hide (step (Below.refl w.heap.size w) (.cells #[.int .i64 k, .int .i64 dr, .int .i64 dc, .int .i64 t, .int .i64 n] 64))
  obtain ⟨wm, hwm⟩ : ∃ wm, w.alloc (.cells #[.int .i64 k, .int .i64 dr, .int .i64 dc, .int .i64 t, .int .i64 n] 64) = wm := ⟨_, rfl⟩
  rw [hwm] at M0 B0
  have m0 := M0.at' 0
  have m1 := M0.at' 1
  have m2 := M0.at' 2
  have m3 := M0.at' 3
  have m4 := M0.at' 4
  simp at m0 m1 m2 m3 m4
  replace m0 := cell_rg m0
  replace m1 := cell_rg m1
  replace m2 := cell_rg m2
  replace m3 := cell_rg m3
  replace m4 := cell_rg m4
  unfold outR
  by_cases c1 : n < 0
  · have hg := gone_bd (most := most) c1 h3
    have k1 := fun d' os => Calls.regrown_of (rgone_any k dr dc t n most c1 h3 h4 (grow (redrawn wm d') os))
    rw [decide_eq_true c1]
    generalize goneR n most = G at *
    by_cases c2 : t ≤ a
    · rw [decide_eq_true c2]
      have ws := IntWalk.wrap64_in (t + G) ⟨by omega, by omega⟩
      go_enter Try.func58, Try.ntmps58
      go_wp2_with fail
      refine wp_region_quiet_below (by kernel_rfl) (by kernel_rfl) ?_
      repeat (go_big_quiet_step (with_reducible exact k1 _ _))
      refine wpQuiet_nil ?_
      intro _ hw'
      obtain ⟨⟨dq1, osq1⟩, hw''⟩ := hw'
      subst hw''
      go_wp2_with fail
      go_ret
      exact ⟨rfl, next B0.out (below_regrown _ dq1 osq1)⟩
    · rw [decide_eq_false c2]
      have d2 : decide (t ≤ a) = false := decide_eq_false c2
      go_enter Try.func58, Try.ntmps58
      go_wp2_with fail
      refine wp_region_quiet_below (by kernel_rfl) (by kernel_rfl) ?_
      repeat (go_big_quiet_step (with_reducible exact k1 _ _))
      refine wpQuiet_nil ?_
      intro _ hw'
      obtain ⟨⟨dq1, osq1⟩, hw''⟩ := hw'
      subst hw''
      go_wp2_with fail
      go_ret
      exact ⟨rfl, next B0.out (below_regrown _ dq1 osq1)⟩
  · rw [decide_eq_false c1]
    have d1 : decide (n < 0) = false := decide_eq_false c1
    go_enter Try.func58, Try.ntmps58
    go_wp2_with fail
    refine wp_region_quiet_below (by kernel_rfl) (by kernel_rfl) ?_
    repeat (go_big_quiet_step (fail))
    refine wpQuiet_nil ?_
    intro _ hw'
    obtain ⟨⟨dq1, osq1⟩, hw''⟩ := hw'
    subst hw''
    go_wp2_with fail
    go_ret
    exact ⟨rfl, next B0.out (below_regrown _ dq1 osq1)⟩
set_option maxHeartbeats 1000000 in
theorem rline_any (k dr dc t n a most : Int) (h1 : 0 ≤ t) (h2 : t ≤ 65536) (a1 : 0 ≤ a) (a2 : a ≤ 131072) (a3 : 0 ≤ n → a ≤ 65536) (h3 : 1 ≤ most) (h4 : most ≤ 65536) (w : World) : Calls Try.prog 60 #[mvV k dr dc t n, .int .i64 a, .int .i64 most] w fun e w' => e = .returned (.int .i64 (lineR t n a most)) ∧ Below w.heap.size w w' := by
  have M0 := Blk.new w #[.int .i64 k, .int .i64 dr, .int .i64 dc, .int .i64 t, .int .i64 n] 64
  have B0 := hide (step (Below.refl w.heap.size w) (.cells #[.int .i64 k, .int .i64 dr, .int .i64 dc, .int .i64 t, .int .i64 n] 64))
  obtain ⟨wm, hwm⟩ : ∃ wm, w.alloc (.cells #[.int .i64 k, .int .i64 dr, .int .i64 dc, .int .i64 t, .int .i64 n] 64) = wm := ⟨_, rfl⟩
  rw [hwm] at M0 B0
  have m0 := M0.at' 0
  have m1 := M0.at' 1
  have m2 := M0.at' 2
  have m3 := M0.at' 3
  have m4 := M0.at' 4
  simp at m0 m1 m2 m3 m4
  unfold lineR
  by_cases c0 : a < t
  · rw [if_pos c0]
    go_enter Try.func60, Try.ntmps60
    go_wp2_with fail
    go_ret
    exact ⟨rfl, B0.out⟩
  rw [if_neg c0]
  by_cases c1 : n < 0
  · rw [if_pos c1]
    have hg := gone_bd (most := most) c1 h3
    have HG := hide (rgone_any k dr dc t n most c1 h3 h4 wm)
    generalize goneR n most = G at *
    have ws := IntWalk.wrap64_in (a - G) ⟨by omega, by omega⟩
    go_enter Try.func60, Try.ntmps60
    go_wp2_with (go_at_call 69; refine HG.out.mono ?_; rintro e w1 ⟨rfl, hb⟩; have b1 := hide (next B0.out hb); clear hb)
    go_ret
    exact ⟨rfl, b1.out⟩
  · rw [if_neg c1]
    have HG := hide (rmoved_any a n most a1 (a3 (by omega)) h3 h4 wm)
    generalize movedR a n most = G at *
    go_enter Try.func60, Try.ntmps60
    go_wp2_with (go_at_call 68; refine HG.out.mono ?_; rintro e w1 ⟨rfl, rfl⟩; have b1 := B0)
    go_ret
    exact ⟨rfl, b1.out⟩
def nearR (t n a b most : Int) : Int := if a < b then t + goneR n most else t - 1
theorem out_iff {t n a most : Int} : outR t n a most = true ↔ n < 0 ∧ t ≤ a ∧ a < t + goneR n most := by
  unfold outR; rw [Bool.and_eq_true, Bool.and_eq_true, decide_eq_true_iff, decide_eq_true_iff, decide_eq_true_iff]; exact and_assoc
theorem near_up {A x : Int} (h : x < A) : (A - intOf (.int .i64 (x + 1))).toNat < (A - intOf (.int .i64 x)).toNat := by
  show (A - (x + 1)).toNat < (A - x).toNat
  omega
theorem near_dn {A x : Int} (h : A ≤ x) : (intOf (.int .i64 (x - 1)) + 1 - A).toNat < (intOf (.int .i64 x) + 1 - A).toNat := by
  show (x - 1 + 1 - A).toNat < (x + 1 - A).toNat
  omega
set_option maxHeartbeats 1000000 in
theorem rnear_any (k dr dc t n a b most : Int) (h1 : 0 ≤ t) (h2 : t < most) (b1 : b ≤ 131072) (hn : n < 0) (ho : outR t n a most = true) (hb : outR t n b most = false) (h3 : 1 ≤ most) (h4 : most ≤ 65536) (w : World) : Calls Try.prog 71 #[mvV k dr dc t n, .int .i64 a, .int .i64 b, .int .i64 most] w fun e w' => e = .returned (.int .i64 (nearR t n a b most)) ∧ Below w.heap.size w w' := by
  have M0 := Blk.new w #[.int .i64 k, .int .i64 dr, .int .i64 dc, .int .i64 t, .int .i64 n] 64
  have B0 := hide (step (Below.refl w.heap.size w) (.cells #[.int .i64 k, .int .i64 dr, .int .i64 dc, .int .i64 t, .int .i64 n] 64))
  obtain ⟨wm, hwm⟩ : ∃ wm, w.alloc (.cells #[.int .i64 k, .int .i64 dr, .int .i64 dc, .int .i64 t, .int .i64 n] 64) = wm := ⟨_, rfl⟩
  rw [hwm] at M0 B0
  have m0 := M0.at' 0
  have m1 := M0.at' 1
  have m2 := M0.at' 2
  have m3 := M0.at' 3
  have m4 := M0.at' 4
  simp at m0 m1 m2 m3 m4
  have hg := gone_bd (most := most) hn h3
  have ho' := out_iff.1 ho
  have hb' : ¬ (n < 0 ∧ t ≤ b ∧ b < t + goneR n most) := fun h => by rw [out_iff.2 h] at hb; cases hb
  have HO := hide (fun x w' => rout_any k dr dc t n x most h1 (by omega) h3 h4 w')
  have hoT := hide (fun x => (out_iff (t := t) (n := n) (a := x) (most := most)).2)
  have hoF : Hid (∀ x, ¬ (n < 0 ∧ t ≤ x ∧ x < t + goneR n most) → outR t n x most = false) := hide (fun x h => by cases q : outR t n x most; rfl; exact absurd (out_iff.1 q) h)
  have MB := hide M0
  unfold nearR
  by_cases c : a < b
  · rw [if_pos c]
    have hbig : t + goneR n most ≤ b := by omega
    generalize goneR n most = G at *
    obtain ⟨-, ha1, ha2⟩ := ho'
    clear ho hb hb' m0 m1 m2 m3 m4
    go_enter Try.func71, Try.ntmps71
    go_wp2_with fail
    go_loopw [1] (fun x wr => ∃ (y : Int), t ≤ y ∧ y ≤ t + G ∧ x = .int .i64 y ∧ Hid (Below wm.heap.size wm wr)) (fun x _ => (t + G - intOf x).toNat)
    case atStart => exact ⟨a, by omega, by omega, rfl, Below.refl _ _⟩
    case round =>
      obtain ⟨y, y1, y2, rfl, HB⟩ := hrel
      have m0 := (MB.out.keep HB.out).at' 0
      have m1 := (MB.out.keep HB.out).at' 1
      have m2 := (MB.out.keep HB.out).at' 2
      have m3 := (MB.out.keep HB.out).at' 3
      have m4 := (MB.out.keep HB.out).at' 4
      simp at m0 m1 m2 m3 m4
      have HO1 := HO.out y wr
      by_cases q : y < t + G
      · rw [hoT.out y ⟨hn, y1, q⟩] at HO1
        replace HO1 := hide HO1
        have c2 : y < b := by omega
        have me := hide (near_up q)
        go_wp2_with (go_at_call 58; refine HO1.out.mono ?_; rintro e w1 ⟨rfl, hb⟩; have b1 := hide (next HB.out hb); clear hb)
        exact ⟨⟨y + 1, by omega, by omega, rfl, b1⟩, me.out⟩
      · obtain rfl : y = t + G := by omega
        rw [hoF.out (t + G) (by omega)] at HO1
        replace HO1 := hide HO1
        go_wp2_with (go_at_call 58; refine HO1.out.mono ?_; rintro e w1 ⟨rfl, hb⟩; have b1 := hide (next HB.out hb); clear hb)
        go_ret
        exact ⟨rfl, next B0.out b1.out⟩
  · rw [if_neg c]
    have hbig : b < t := by omega
    generalize goneR n most = G at *
    obtain ⟨-, ha1, ha2⟩ := ho'
    clear ho hb hb' m0 m1 m2 m3 m4
    go_enter Try.func71, Try.ntmps71
    go_wp2_with fail
    go_loopw [1] (fun x wr => ∃ (y : Int), t - 1 ≤ y ∧ y < t + G ∧ x = .int .i64 y ∧ Hid (Below wm.heap.size wm wr)) (fun x _ => (intOf x + 1 - t).toNat)
    case atStart => exact ⟨a, by omega, by omega, rfl, Below.refl _ _⟩
    case round =>
      obtain ⟨y, y1, y2, rfl, HB⟩ := hrel
      have m0 := (MB.out.keep HB.out).at' 0
      have m1 := (MB.out.keep HB.out).at' 1
      have m2 := (MB.out.keep HB.out).at' 2
      have m3 := (MB.out.keep HB.out).at' 3
      have m4 := (MB.out.keep HB.out).at' 4
      simp at m0 m1 m2 m3 m4
      have HO1 := HO.out y wr
      by_cases q : t ≤ y
      · rw [hoT.out y ⟨hn, q, y2⟩] at HO1
        replace HO1 := hide HO1
        have c2 : ¬ y < b := by omega
        have me := hide (near_dn q)
        go_wp2_with (go_at_call 58; refine HO1.out.mono ?_; rintro e w1 ⟨rfl, hb⟩; have b1 := hide (next HB.out hb); clear hb)
        exact ⟨⟨y - 1, by omega, by omega, rfl, b1⟩, me.out⟩
      · obtain rfl : y = t - 1 := by omega
        rw [hoF.out (t - 1) (by omega)] at HO1
        replace HO1 := hide HO1
        go_wp2_with (go_at_call 58; refine HO1.out.mono ?_; rintro e w1 ⟨rfl, hb⟩; have b1 := hide (next HB.out hb); clear hb)
        go_ret
        exact ⟨rfl, next B0.out b1.out⟩
end Go.Proofs.Ytnikmbkkhfmbeaa
