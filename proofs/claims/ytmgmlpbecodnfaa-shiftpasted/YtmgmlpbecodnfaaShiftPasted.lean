/- quadrillelaw12.ShiftPasted: pasted twice is pasted by both together; there and back is the same. -/
import Derived.Test.YtmgmlpbecodnfaaRg12
import Derived.Test.YtmgmlpbecodnfaaPasM12
namespace Go.Proofs.Ytmgmlpbecodnfaa
open Go.RowKit Go.Sort
set_option linter.unusedVariables false

theorem neg_in {a : Int} (h1 : -9223372036854775808 ≤ a) (h2 : a ≤ 9223372036854775807) (h : ¬ a = -9223372036854775808) : wrap64 (-a) = -a := IntWalk.wrap64_in _ ⟨by omega, by omega⟩
theorem bnd (a : Int) (h : (Lit.int .i64 a).wf = true) : -9223372036854775808 ≤ a ∧ a ≤ 9223372036854775807 := bounds_i64 h
set_option maxHeartbeats 8000000 in
set_option maxRecDepth 100000 in
theorem shiftPasted_walk (t : Ex) (v : Value) (a : Int) (ha : (Lit.int .i64 a).wf = true) (b : Int) (hb0 : (Lit.int .i64 b).wf = true) (c : Int) (hc : (Lit.int .i64 c).wf = true) (d : Int) (hd : (Lit.int .i64 d).wf = true) (w : World) (ht : Tree w v t) :
    Calls Try.prog 4 #[v, .int .i64 a, .int .i64 b, .int .i64 c, .int .i64 d] w fun e w' => e = .returned (.bool true) ∧ Below w.heap.size w w' := by
  obtain ⟨ha1, ha2⟩ := bnd a ha
  obtain ⟨hb1, hb2⟩ := bnd b hb0
  clear ha hb0 hc hd
  obtain ⟨nd, ks⟩ := t
  obtain ⟨a0, l0, c0, rfl, _, _, _, _⟩ := ht.un
  have hsmT := hide (In.sm _ ht)
  have TB0 := hide (Blk.new w (exC nd (.slice a0 l0 c0)) 29)
  have B0 := hide (step (Below.refl w.heap.size w) (exO nd (.slice a0 l0 c0)))
  replace ht := hide ht
  go_enter Try.func4, Try.ntmps4
  go_wp2_with fail
  refine (begun12 _).mono ?_
  rintro e w1 ⟨rfl, hb⟩
  have B1 := hide (next B0.out hb)
  have TB1 := hide (TB0.out.keep hb)
  clear hb TB0
  go_wp2_with (refine wpList_load_blk rfl 29 _ rfl _ rfl _ (by with_reducible exact TB1.out) _ Try.underlying29 rfl (exC_info _ _) ?_)
  refine (sound_any (.mk nd ks) _ w1 (ht.out.step B1.out)).mono ?_
  rintro e w2 ⟨rfl, hb⟩
  have B2 := hide (next B1.out hb)
  have TB2 := hide (TB1.out.keep hb)
  clear hb TB1 B1 B0
  by_cases hS : ¬ (0 ≤ ndsE (.mk nd ks) 2000 ∧ mayR (.mk nd ks) = 0)
  · have hS' : (decide (0 ≤ ndsE (.mk nd ks) 2000) && decide (mayR (.mk nd ks) = 0)) = false := by
      rw [Bool.and_eq_false_iff]
      by_cases q : 0 ≤ ndsE (.mk nd ks) 2000
      · exact .inr (decide_eq_false (fun h => hS ⟨q, h⟩))
      · exact .inl (decide_eq_false q)
    rw [hS']
    clear hS hS'
    go_wp2_with fail
    go_ret
    exact ⟨rfl, B2.out⟩
  obtain ⟨hS1, hm⟩ := Classical.byContradiction hS
  clear hS
  rw [decide_eq_true hS1, decide_eq_true hm]
  obtain ⟨hfit, hall⟩ := may_parts hm
  have hn : nodesE (.mk nd ks) ≤ 512 := (of_decide_eq_true hfit).1
  clear hS1 hfit
  have hmv := hide (fun f => mov_may f hm)
  have hsmv := hide (fun f => mov_sm f _ hall hsmT.out)
  have hnmv : Hid (∀ f, nodesE (movE f (.mk nd ks)) ≤ 512) := hide (fun f => by rw [mov_nodes]; exact hn)
  have HP := hide (fun x y w' (h : Below w.heap.size w w') => paste_any (.mk nd ks) _ x y w' (ht.out.step h))
  rw [hm] at HP
  have hrl := hide (refs_le (pasR a b) _ hall)
  have hbare := hide (bare_mov (pasR a b) _ hall)
  have hpp := hide (fun c d => pas_pas (a := a) (b := b) (c := c) (d := d) hall)
  have hpb := hide (pas_back (a := a) (b := b) hall)
  have hsb := hide (bare_sm _ hsmT.out)
  obtain ⟨bn, bk, hbe⟩ : ∃ bn bk, bareE (.mk nd ks) = .mk bn bk := by cases bareE (.mk nd ks); exact ⟨_, _, rfl⟩
  have HB2 : Hid (∀ w', Below w.heap.size w w' → Calls Try.prog 18 #[lit14 nd (.slice a0 l0 c0)] w' fun e w'' => NewP w' (.mk bn bk) e w'') := hide (fun w' h => by have := bare_any (.mk nd ks) _ w' (ht.out.step h) hn; rw [hbe] at this; exact this)
  have HR2 : Hid (∀ w', Below w.heap.size w w' → Calls Try.prog 20 #[lit14 nd (.slice a0 l0 c0)] w' fun e w'' => e = .returned (.int .i64 (refsE (.mk nd ks) : Int)) ∧ Below w'.heap.size w' w'') := hide (fun w' h => refs_any (.mk nd ks) _ w' (ht.out.step h) hn)
  rw [hbe] at hbare hsb
  clear hbe hall
  replace hn := hide hn
  -- the first paste
  go_wp2_with (refine wpList_load_blk rfl 29 _ rfl _ rfl _ (by with_reducible exact TB2.out) _ Try.underlying29 rfl (exC_info _ _) ?_)
  refine (HP.out a b w2 B2.out).mono ?_
  intro e w3 hh
  obtain ⟨xn, xk, hxe⟩ : ∃ xn xk, movE (pasR a b) (.mk nd ks) = .mk xn xk := ⟨_, _, by rw [movE]⟩
  have hmx := hmv.out (pasR a b)
  have hsx := hsmv.out (pasR a b)
  have hnx := hnmv.out (pasR a b)
  rw [hxe] at hh hmx hsx hnx hrl hbare hpb hpp
  obtain ⟨a3, l3, c3, rfl, T3, hb⟩ := hh.tree hsx
  have B3 := hide (step (next B2.out hb) (exO xn (.slice a3 l3 c3)))
  have TB3 : Hid (Blk (w3.alloc (exO xn (.slice a3 l3 c3))) w.heap.size (exC nd (.slice a0 l0 c0)) 29) := hide ((TB2.out.keep hb).alloc _)
  have XB3 : Hid (Blk (w3.alloc (exO xn (.slice a3 l3 c3))) w3.heap.size (exC xn (.slice a3 l3 c3)) 29) := hide (Blk.new w3 _ _)
  have TX3 := hide (T3.alloc (exO xn (.slice a3 l3 c3)))
  have hsn3 := run_putnew w3 xn a3 l3 c3
  clear hh hb TB2 B2 T3 hxe
  go_wp2_with fail
  obtain ⟨w4, hw4⟩ : ∃ w4, w3.alloc (exO xn (.slice a3 l3 c3)) = w4 := ⟨_, rfl⟩
  rw [hw4] at B3 TB3 XB3 TX3 ⊢
  clear hw4 hsn3
  have HX1 : Hid (∀ w', Below w4.heap.size w4 w' → Calls Try.prog 17 #[lit14 xn (.slice a3 l3 c3)] w' fun e w'' => e = .returned (.int .i64 0) ∧ Below w'.heap.size w' w'') := hide (fun w' h => by have := may_any (.mk xn xk) _ w' (TX3.out.step h); rw [hmx] at this; exact this)
  have HX2 : Hid (∀ w', Below w4.heap.size w4 w' → Calls Try.prog 18 #[lit14 xn (.slice a3 l3 c3)] w' fun e w'' => NewP w' (.mk bn bk) e w'') := hide (fun w' h => by have := bare_any (.mk xn xk) _ w' (TX3.out.step h) hnx; rw [hbare.out] at this; exact this)
  have HX3 : Hid (∀ w', Below w4.heap.size w4 w' → Calls Try.prog 18 #[lit14 nd (.slice a0 l0 c0)] w' fun e w'' => NewP w' (.mk bn bk) e w'') := hide (fun w' h => HB2.out w' (next B3.out h))
  refine reg6p XB3.out TB3.out hsb.out HX1.out HX2.out HX3.out ?_
  intro w5 x31 x32 x33 x34 x35 x36 x37 x38 x39 x40 x41 x42 x43 x44 hb
  clear HX1 HX2 HX3 HB2
  have B5 := hide (next B3.out hb)
  have TB5 := hide (TB3.out.keep hb)
  have XB5 := hide (XB3.out.keep hb)
  have TX5 := hide (TX3.out.step hb)
  clear hb B3 TB3 XB3 TX3
  -- lost?
  go_wp2_with (first
    | (refine wpList_load_blk rfl 29 _ rfl _ rfl _ (by with_reducible exact XB5.out) _ Try.underlying29 rfl (exC_info _ _) ?_)
    | (refine wpList_load_blk rfl 29 _ rfl _ rfl _ (by with_reducible exact TB5.out) _ Try.underlying29 rfl (exC_info _ _) ?_))
  refine (lost_any (.mk xn xk) (.mk nd ks) _ _ w5 TX5.out (ht.out.step B5.out) hnx hn.out).mono ?_
  rintro e w6 ⟨rfl, hb⟩
  have B6 := hide (next B5.out hb)
  have TB6 := hide (TB5.out.keep hb)
  have XB6 := hide (XB5.out.keep hb)
  have TX6 := hide (TX5.out.step hb)
  clear hb B5 TB5 XB5 TX5
  by_cases hq : ¬ refsE (.mk xn xk) = refsE (.mk nd ks)
  · rw [decide_eq_true hq]
    have hlt : (refsE (.mk xn xk) : Int) < (refsE (.mk nd ks) : Int) := by have := hrl.out.1; omega
    obtain ⟨x0, x1, x2, x3, x4, x5, x6, x7, x8, x9, x10, x11, x12, x13⟩ := XB6.out.c14
    obtain ⟨y0, y1, y2, y3, y4, y5, y6, y7, y8, y9, y10, y11, y12, y13⟩ := TB6.out.c14
    replace x0 := cell_rg x0
    replace x1 := cell_rg x1
    replace x2 := cell_rg x2
    replace x3 := cell_rg x3
    replace x4 := cell_rg x4
    replace x5 := cell_rg x5
    replace x6 := cell_rg x6
    replace x7 := cell_rg x7
    replace x8 := cell_rg x8
    replace x9 := cell_rg x9
    replace x10 := cell_rg x10
    replace x11 := cell_rg x11
    replace x12 := cell_rg x12
    replace x13 := cell_rg x13
    replace y0 := cell_rg y0
    replace y1 := cell_rg y1
    replace y2 := cell_rg y2
    replace y3 := cell_rg y3
    replace y4 := cell_rg y4
    replace y5 := cell_rg y5
    replace y6 := cell_rg y6
    replace y7 := cell_rg y7
    replace y8 := cell_rg y8
    replace y9 := cell_rg y9
    replace y10 := cell_rg y10
    replace y11 := cell_rg y11
    replace y12 := cell_rg y12
    replace y13 := cell_rg y13
    have k1 := fun d' os => Calls.regrown_of (show Calls Try.prog 20 #[lit14 xn (.slice a3 l3 c3)] (grow (redrawn w6 d') os) (fun e w'' => e = .returned (.int .i64 (refsE (.mk xn xk) : Int)) ∧ Below (grow (redrawn w6 d') os).heap.size (grow (redrawn w6 d') os) w'') from refs_any (.mk xn xk) _ (grow (redrawn w6 d') os) (TX6.out.step (below_regrown w6 d' os)) hnx)
    have k2 := fun d' os => Calls.regrown_of (HR2.out (grow (redrawn w6 d') os) (next B6.out (below_regrown w6 d' os)))
    go_wp2_with fail
    refine wp_region_quiet_below (by kernel_rfl) (by kernel_rfl) ?_
    repeat (go_big_quiet_step (first | (with_reducible exact k1 _ _) | (with_reducible exact k2 _ _)))
    refine wpQuiet_nil ?_
    intro _ hw'
    obtain ⟨⟨dq1, osq1⟩, hw''⟩ := hw'
    subst hw''
    go_wp2_with fail
    go_ret
    exact ⟨rfl, next B6.out (below_regrown _ dq1 osq1)⟩
  replace hq := Classical.byContradiction hq
  rw [decide_eq_false (fun h => h hq)]
  have hkp := hrl.out.2 hq
  replace hpp := hide (fun c d => hpp.out c d hkp)
  replace hpb := hide (hpb.out hkp)
  clear hrl hkp hq HR2 hbare hsb
  -- back
  have HPX := hide (fun x y w' (h : Below w6.heap.size w6 w') => paste_any (.mk xn xk) _ x y w' (TX6.out.step h))
  rw [hmx] at HPX
  have hsX := hide (fun f => mov_sm f _ (may_parts hmx).2 hsx)
  have hbk : Hid (¬ a = -9223372036854775808 → ¬ b = -9223372036854775808 → movE (pasR (wrap64 (-a)) (wrap64 (-b))) (.mk xn xk) = .mk nd ks) := hide (fun h1 h2 => by rw [neg_in ha1 ha2 h1, neg_in hb1 hb2 h2]; exact hpb.out)
  have hnn : ∃ na nb, na = wrap64 (-a) ∧ nb = wrap64 (-b) := ⟨_, _, rfl, rfl⟩
  obtain ⟨na, nb, hna, hnb⟩ := hnn
  rw [← hna, ← hnb] at hbk
  go_wp2_with (refine wpList_load_blk rfl 29 _ rfl _ rfl _ (by with_reducible exact XB6.out) _ Try.underlying29 rfl (exC_info _ _) ?_)
  rw [← hna, ← hnb]
  clear hna hnb hpb
  refine (HPX.out na nb w6 (Below.refl _ _)).mono ?_
  intro e w7 hh
  obtain ⟨kn, kk, hke⟩ : ∃ kn kk, movE (pasR na nb) (.mk xn xk) = .mk kn kk := ⟨_, _, by rw [movE]⟩
  have hsk := hsX.out (pasR na nb)
  rw [hke] at hh hsk hbk
  obtain ⟨a7, l7, c7, rfl, T7, hb⟩ := hh.tree hsk
  have B8 := hide (step (next B6.out hb) (exO kn (.slice a7 l7 c7)))
  have TB8 : Hid (Blk (w7.alloc (exO kn (.slice a7 l7 c7))) w.heap.size (exC nd (.slice a0 l0 c0)) 29) := hide ((TB6.out.keep hb).alloc _)
  have XB8 : Hid (Blk (w7.alloc (exO kn (.slice a7 l7 c7))) w3.heap.size (exC xn (.slice a3 l3 c3)) 29) := hide ((XB6.out.keep hb).alloc _)
  have KB8 : Hid (Blk (w7.alloc (exO kn (.slice a7 l7 c7))) w7.heap.size (exC kn (.slice a7 l7 c7)) 29) := hide (Blk.new w7 _ _)
  have D8 := hide (step hb (exO kn (.slice a7 l7 c7)))
  have TK8 := hide (T7.alloc (exO kn (.slice a7 l7 c7)))
  have hsn7 := run_putnew w7 kn a7 l7 c7
  clear hh hb TB6 XB6 T7 hke
  have HE8 : Hid (¬ a = -9223372036854775808 → ¬ b = -9223372036854775808 → Calls Try.prog 13 #[exV kn (.slice a7 l7 c7), exV nd (.slice a0 l0 c0)] (w7.alloc (exO kn (.slice a7 l7 c7))) fun e w'' => e = .returned (.bool true) ∧ Below (w7.alloc (exO kn (.slice a7 l7 c7))).heap.size (w7.alloc (exO kn (.slice a7 l7 c7))) w'') := hide (fun h1 h2 => by
    have := leq_any (.mk kn kk) (.mk nd ks) _ _ _ TK8.out (ht.out.step B8.out)
    rw [hbk.out h1 h2, same_selfE] at this
    exact this)
  by_cases qa : a = -9223372036854775808
  · have ja : (a != -9223372036854775808) = false := by rw [qa]; rfl
    have q0 : ¬ 1099511627776 < a := by omega
    have q1 : a < -1099511627776 := by omega
    clear qa
    have B9 := B8
    have D9 := D8
    have TB9 := TB8
    have XB9 := XB8
    clear B8 TB8 XB8 KB8 D8 TK8 HE8 hbk B6
    go_wp2_with (refine wpList_load_blk rfl 29 _ rfl _ rfl _ (by with_reducible exact XB9.out) _ Try.underlying29 rfl (exC_info _ _) ?_)
    clear ja hsn7
    refine (HPX.out c d _ D9.out).mono ?_
    intro e w10 hh
    obtain ⟨yn, yk, hye⟩ : ∃ yn yk, movE (pasR c d) (.mk xn xk) = .mk yn yk := ⟨_, _, by rw [movE]⟩
    have hsy := hsX.out (pasR c d)
    have hpp1 := hpp.out c d
    rw [hye] at hh hsy hpp1
    obtain ⟨a10, l10, c10, rfl, T10, hb⟩ := hh.tree hsy
    have B11 := hide (step (next B9.out hb) (exO yn (.slice a10 l10 c10)))
    have TB11 : Hid (Blk (w10.alloc (exO yn (.slice a10 l10 c10))) w.heap.size (exC nd (.slice a0 l0 c0)) 29) := hide ((TB9.out.keep hb).alloc _)
    have YB11 : Hid (Blk (w10.alloc (exO yn (.slice a10 l10 c10))) w10.heap.size (exC yn (.slice a10 l10 c10)) 29) := hide (Blk.new w10 _ _)
    have TY11 := hide (T10.alloc (exO yn (.slice a10 l10 c10)))
    have hsn10 := run_putnew w10 yn a10 l10 c10
    clear hh hb TB9 XB9 T10 B9 D9 hye HPX hsX hpp TX6
    go_wp2_with fail
    go_ret
    exact ⟨rfl, B11.out⟩
  · have ja : (a != -9223372036854775808) = true := by simp [qa]
    by_cases qb : b = -9223372036854775808
    · have jb : (b != -9223372036854775808) = false := by rw [qb]; rfl
      have q2 : ¬ 1099511627776 < b := by omega
      have q3 : b < -1099511627776 := by omega
      clear qb qa
      have B9 := B8
      have D9 := D8
      have TB9 := TB8
      have XB9 := XB8
      clear B8 TB8 XB8 KB8 D8 TK8 HE8 hbk B6
      go_wp2_with (refine wpList_load_blk rfl 29 _ rfl _ rfl _ (by with_reducible exact XB9.out) _ Try.underlying29 rfl (exC_info _ _) ?_)
      clear ja jb hsn7
      refine (HPX.out c d _ D9.out).mono ?_
      intro e w10 hh
      obtain ⟨yn, yk, hye⟩ : ∃ yn yk, movE (pasR c d) (.mk xn xk) = .mk yn yk := ⟨_, _, by rw [movE]⟩
      have hsy := hsX.out (pasR c d)
      have hpp1 := hpp.out c d
      rw [hye] at hh hsy hpp1
      obtain ⟨a10, l10, c10, rfl, T10, hb⟩ := hh.tree hsy
      have B11 := hide (step (next B9.out hb) (exO yn (.slice a10 l10 c10)))
      have TB11 : Hid (Blk (w10.alloc (exO yn (.slice a10 l10 c10))) w.heap.size (exC nd (.slice a0 l0 c0)) 29) := hide ((TB9.out.keep hb).alloc _)
      have YB11 : Hid (Blk (w10.alloc (exO yn (.slice a10 l10 c10))) w10.heap.size (exC yn (.slice a10 l10 c10)) 29) := hide (Blk.new w10 _ _)
      have TY11 := hide (T10.alloc (exO yn (.slice a10 l10 c10)))
      have hsn10 := run_putnew w10 yn a10 l10 c10
      clear hh hb TB9 XB9 T10 B9 D9 hye HPX hsX hpp TX6
      by_cases q0 : 1099511627776 < a
      · go_wp2_with fail
        go_ret
        exact ⟨rfl, B11.out⟩
      by_cases q1 : a < -1099511627776
      · go_wp2_with fail
        go_ret
        exact ⟨rfl, B11.out⟩
      go_wp2_with fail
      go_ret
      exact ⟨rfl, B11.out⟩
    · replace HE8 := hide (HE8.out qa qb)
      have jb : (b != -9223372036854775808) = true := by simp [qb]
      clear qa qb
      go_wp2_with (first
        | (refine wpList_load_blk rfl 29 _ rfl _ rfl _ (by with_reducible exact XB9.out) _ Try.underlying29 rfl (exC_info _ _) ?_)
        | (refine wpList_load_blk_g rfl 29 _ rfl _ rfl _ (by with_reducible exact KB8.out) _ Try.underlying29 rfl (exC_info _ _) ?_)
        | (refine wpList_load_blk_g rfl 29 _ rfl _ rfl _ (by with_reducible exact TB8.out) _ Try.underlying29 rfl (exC_info _ _) ?_)
        | (go_at_call 13; refine HE8.out.mono ?_; rintro e w9 ⟨rfl, hb⟩; have B9 := hide (next B8.out hb); have D9 := hide (next D8.out hb); have TB9 := hide (TB8.out.keep hb); have XB9 := hide (XB8.out.keep hb); clear hb))
      clear ja jb hsn7 B8 TB8 XB8 KB8 D8 TK8 HE8 hbk B6
      refine (HPX.out c d _ D9.out).mono ?_
      intro e w10 hh
      obtain ⟨yn, yk, hye⟩ : ∃ yn yk, movE (pasR c d) (.mk xn xk) = .mk yn yk := ⟨_, _, by rw [movE]⟩
      have hsy := hsX.out (pasR c d)
      have hpp1 := hpp.out c d
      rw [hye] at hh hsy hpp1
      obtain ⟨a10, l10, c10, rfl, T10, hb⟩ := hh.tree hsy
      have B11 := hide (step (next B9.out hb) (exO yn (.slice a10 l10 c10)))
      have TB11 : Hid (Blk (w10.alloc (exO yn (.slice a10 l10 c10))) w.heap.size (exC nd (.slice a0 l0 c0)) 29) := hide ((TB9.out.keep hb).alloc _)
      have YB11 : Hid (Blk (w10.alloc (exO yn (.slice a10 l10 c10))) w10.heap.size (exC yn (.slice a10 l10 c10)) 29) := hide (Blk.new w10 _ _)
      have TY11 := hide (T10.alloc (exO yn (.slice a10 l10 c10)))
      have hsn10 := run_putnew w10 yn a10 l10 c10
      clear hh hb TB9 XB9 T10 B9 D9 hye HPX hsX hpp TX6
      by_cases q0 : 1099511627776 < a
      · go_wp2_with fail
        go_ret
        exact ⟨rfl, B11.out⟩
      by_cases q1 : a < -1099511627776
      · go_wp2_with fail
        go_ret
        exact ⟨rfl, B11.out⟩
      by_cases q2 : 1099511627776 < b
      · go_wp2_with fail
        go_ret
        exact ⟨rfl, B11.out⟩
      by_cases q3 : b < -1099511627776
      · go_wp2_with fail
        go_ret
        exact ⟨rfl, B11.out⟩
      by_cases q4 : 1099511627776 < c
      · go_wp2_with fail
        go_ret
        exact ⟨rfl, B11.out⟩
      by_cases q5 : c < -1099511627776
      · go_wp2_with fail
        go_ret
        exact ⟨rfl, B11.out⟩
      by_cases q6 : 1099511627776 < d
      · go_wp2_with fail
        go_ret
        exact ⟨rfl, B11.out⟩
      by_cases q7 : d < -1099511627776
      · go_wp2_with fail
        go_ret
        exact ⟨rfl, B11.out⟩
      have wr := IntWalk.wrap64_in (a + c) ⟨by omega, by omega⟩
      have wc := IntWalk.wrap64_in (b + d) ⟨by omega, by omega⟩
      go_wp2_with (refine wpList_load_blk rfl 29 _ rfl _ rfl _ (by with_reducible exact TB11.out) _ Try.underlying29 rfl (exC_info _ _) ?_)
      obtain ⟨w11, hw11⟩ : ∃ w11, w10.alloc (exO yn (.slice a10 l10 c10)) = w11 := ⟨_, rfl⟩
      rw [hw11] at B11 TB11 YB11 TY11 ⊢
      clear hw11 hsn10
      refine (HP.out (a + c) (b + d) w11 B11.out).mono ?_
      intro e w12 hh
      have hsz := hsmv.out (pasR (a + c) (b + d))
      rw [← hpp1] at hh hsz
      obtain ⟨a12, l12, c12, rfl, T12, hb⟩ := hh.tree hsz
      have B13 := hide (step (next B11.out hb) (exO yn (.slice a12 l12 c12)))
      have YB13 : Hid (Blk (w12.alloc (exO yn (.slice a12 l12 c12))) w10.heap.size (exC yn (.slice a10 l10 c10)) 29) := hide ((YB11.out.keep hb).alloc _)
      have ZB13 : Hid (Blk (w12.alloc (exO yn (.slice a12 l12 c12))) w12.heap.size (exC yn (.slice a12 l12 c12)) 29) := hide (Blk.new w12 _ _)
      have TY13 := hide ((TY11.out.step hb).alloc (exO yn (.slice a12 l12 c12)))
      have TZ13 := hide (T12.alloc (exO yn (.slice a12 l12 c12)))
      have hsn12 := run_putnew w12 yn a12 l12 c12
      have HE : Hid (Calls Try.prog 13 #[lit14 yn (.slice a10 l10 c10), lit14 yn (.slice a12 l12 c12)] (w12.alloc (exO yn (.slice a12 l12 c12))) fun e w'' => e = .returned (.bool true) ∧ Below (w12.alloc (exO yn (.slice a12 l12 c12))).heap.size (w12.alloc (exO yn (.slice a12 l12 c12))) w'') := hide (by have := leq_any (.mk yn yk) (.mk yn yk) _ _ _ TY13.out TZ13.out; rw [same_selfE] at this; exact this)
      obtain ⟨y0, y1, y2, y3, y4, y5, y6, y7, y8, y9, y10, y11, y12, y13⟩ := YB13.out.c14
      obtain ⟨z0, z1, z2, z3, z4, z5, z6, z7, z8, z9, z10, z11, z12, z13⟩ := ZB13.out.c14
      clear hh hb TB11 YB11 TY11 B11 T12 hpp1 wr wc YB13 ZB13 TY13 TZ13
      go_wp2_with fail
      refine HE.out.mono ?_
      rintro e w14 ⟨rfl, hb⟩
      have B14 := hide (next B13.out hb)
      clear hb
      go_wp2_with fail
      go_ret
      exact ⟨rfl, B14.out⟩
end Go.Proofs.Ytmgmlpbecodnfaa
