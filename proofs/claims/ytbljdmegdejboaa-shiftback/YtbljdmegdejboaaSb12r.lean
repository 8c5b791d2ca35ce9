/- quadrillelaw12.ShiftBack, of rows. -/
import Derived.Test.YtbljdmegdejboaaSbJ12
namespace Go.Proofs.Ytbljdmegdejboaa
open Go.RowKit Go.Sort
set_option linter.unusedVariables false

set_option maxHeartbeats 8000000 in
set_option maxRecDepth 100000 in
theorem sb12r (t : Ex) (v : Value) (p : Int) (m : Int) (w : World) (ht : Tree w v t) :
    Calls Try.prog 4 #[v, .int .i64 p, .int .i64 m, .bool false] w fun e w' => e = .returned (.bool true) ∧ Below w.heap.size w w' := by
  obtain ⟨nd, ks⟩ := t
  obtain ⟨a0, l0, c0, rfl, _, _, _, _⟩ := ht.un
  have hsmT := hide (In.sm _ ht)
  have TB0 := hide (Blk.new w (exC nd (.slice a0 l0 c0)) 29)
  have B0 := hide (step (Below.refl w.heap.size w) (exO nd (.slice a0 l0 c0)))
  replace ht := hide ht
  go_enter Try.func4, Try.ntmps4
  go_wp2_with fail
  refine (begun12 _).mono ?_
  rintro e w1 ⟨rfl, hb⟩
  have B1 := hide (next B0.out hb)
  have TB1 := hide (TB0.out.keep hb)
  clear hb TB0
  go_wp2_with (refine wpList_load_blk rfl 29 _ rfl _ rfl _ (by with_reducible exact TB1.out) _ Try.underlying29 rfl (exC_info _ _) ?_)
  refine (sound_any (.mk nd ks) _ w1 (ht.out.step B1.out)).mono ?_
  rintro e w2 ⟨rfl, hb⟩
  have B2 := hide (next B1.out hb)
  have TB2 := hide (TB1.out.keep hb)
  clear hb TB1 B1 B0
  by_cases hS : ¬ (0 ≤ ndsE (.mk nd ks) 2000 ∧ mayR (.mk nd ks) = 0)
  · have hS' : (decide (0 ≤ ndsE (.mk nd ks) 2000) && decide (mayR (.mk nd ks) = 0)) = false := by
      rw [Bool.and_eq_false_iff]
      by_cases q : 0 ≤ ndsE (.mk nd ks) 2000
      · exact .inr (decide_eq_false (fun h => hS ⟨q, h⟩))
      · exact .inl (decide_eq_false q)
    rw [hS']
    clear hS hS'
    go_wp2_with fail
    go_ret
    exact ⟨rfl, B2.out⟩
  obtain ⟨hS1, hm⟩ := Classical.byContradiction hS
  clear hS
  rw [decide_eq_true hS1, decide_eq_true hm]
  obtain ⟨hfit, hall⟩ := may_parts hm
  have hn : nodesE (.mk nd ks) ≤ 512 := (of_decide_eq_true hfit).1
  clear hS1 hfit
  replace hm := hide hm
  replace hall := hide hall
  replace hn := hide hn
  by_cases q1 : m < 1
  · go_wp2_with fail
    go_ret
    exact ⟨rfl, B2.out⟩
  by_cases q2 : 70000 < m
  · go_wp2_with fail
    go_ret
    exact ⟨rfl, B2.out⟩
  by_cases q3 : p < 0
  · go_wp2_with fail
    go_ret
    exact ⟨rfl, B2.out⟩
  by_cases q4 : 70000 < p
  · go_wp2_with fail
    go_ret
    exact ⟨rfl, B2.out⟩
  have wn : Hid (wrap64 (-m) = -m) := hide (IntWalk.wrap64_in (-m) ⟨by omega, by omega⟩)
  obtain ⟨xn, xk, hxe⟩ : ∃ xn xk, movE (rowR p m) (.mk nd ks) = .mk xn xk := ⟨_, _, by rw [movE]⟩
  have hmx := mov_may (rowR p m) hm.out
  have hsx := mov_sm (rowR p m) _ hall.out hsmT.out
  have hnx : nodesE (movE (rowR p m) (.mk nd ks)) ≤ 512 := by rw [mov_nodes]; exact hn.out
  have hrl := refs_le (rowR p m) _ hall.out
  have hbare := bare_mov (rowR p m) _ hall.out
  have hbk := fun hk => row_back (t := p) (n := m) (by omega) (by omega) (u := .mk nd ks) hall.out hk
  have hsty := fun ha => ahd_stay (t := p) (k := m) (cols := false) (.mk nd ks) hall.out ha
  simp only [Bool.false_eq_true, if_false] at hsty
  have her0 := er_r (K := 2) (p := p) rfl hm.out
  have her1 := er_r (K := 2) (p := p) rfl hmx
  rw [hxe] at hmx hsx hnx hrl hbare hbk hsty her1
  have hsb := bare_sm _ hsmT.out
  obtain ⟨bn, bk, hbe⟩ : ∃ bn bk, bareE (.mk nd ks) = .mk bn bk := by cases bareE (.mk nd ks); exact ⟨_, _, rfl⟩
  have HB2 : Hid (∀ w', Below w.heap.size w w' → Calls Try.prog 14 #[lit14 nd (.slice a0 l0 c0)] w' fun e w'' => NewP w' (.mk bn bk) e w'') := hide (fun w' h => by have := bare_any (.mk nd ks) _ w' (ht.out.step h) hn.out; rw [hbe] at this; exact this)
  have HR2 : Hid (∀ w', Below w.heap.size w w' → Calls Try.prog 17 #[lit14 nd (.slice a0 l0 c0)] w' fun e w'' => e = .returned (.int .i64 (refsE (.mk nd ks) : Int)) ∧ Below w'.heap.size w' w'') := hide (fun w' h => refs_any (.mk nd ks) _ w' (ht.out.step h) hn.out)
  rw [hbe] at hbare hsb
  clear hbe
  have hcm : clMv 2 p m = rowR p m := by unfold clMv; simp
  have hcn : clMv 2 p (-m) = rowR p (-m) := by unfold clMv; simp
  have HC := hide (fun w' (h : Below w.heap.size w w') => call_any 2 p m (.mk nd ks) nd nd a0 a0 l0 c0 l0 c0 w' (ht.out.step h) (ht.out.step h))
  rw [hcm, hxe, her0] at HC
  replace hmx := hide hmx
  replace hsx := hide hsx
  replace hnx := hide hnx
  replace hrl := hide hrl
  replace hbare := hide hbare
  replace hbk := hide hbk
  replace hsty := hide hsty
  replace her1 := hide her1
  replace hsb := hide hsb
  replace hcn := hide hcn
  clear hcm her0 hxe
  -- the call
  obtain ⟨y0, y1, y2, y3, y4, y5, y6, y7, y8, y9, y10, y11, y12, y13⟩ := TB2.out.c14
  have hbw : Hid (w.heap.size < w2.heap.size) := hide (TB2.out.lt)
  have B3 := hide (step B2.out (.cells #[.int .i64 2, .int .i64 nd.kind, .int .i64 nd.op, .int .i64 nd.num, .string nd.text, .int .i64 nd.ref.row, .int .i64 nd.ref.col, .bool nd.ref.pr, .bool nd.ref.pc, .int .i64 nd.to.row, .int .i64 nd.to.col, .bool nd.to.pr, .bool nd.to.pc, .int .i64 nd.fn, .slice a0 l0 c0, .int .i64 p, .int .i64 m] 31))
  have TB3 : Hid (Blk (w2.alloc (.cells #[.int .i64 2, .int .i64 nd.kind, .int .i64 nd.op, .int .i64 nd.num, .string nd.text, .int .i64 nd.ref.row, .int .i64 nd.ref.col, .bool nd.ref.pr, .bool nd.ref.pc, .int .i64 nd.to.row, .int .i64 nd.to.col, .bool nd.to.pr, .bool nd.to.pc, .int .i64 nd.fn, .slice a0 l0 c0, .int .i64 p, .int .i64 m] 31)) w.heap.size (exC nd (.slice a0 l0 c0)) 29) := hide (TB2.out.alloc _)
  have OB3 : Hid (Blk (w2.alloc (.cells #[.int .i64 2, .int .i64 nd.kind, .int .i64 nd.op, .int .i64 nd.num, .string nd.text, .int .i64 nd.ref.row, .int .i64 nd.ref.col, .bool nd.ref.pr, .bool nd.ref.pc, .int .i64 nd.to.row, .int .i64 nd.to.col, .bool nd.to.pr, .bool nd.to.pc, .int .i64 nd.fn, .slice a0 l0 c0, .int .i64 p, .int .i64 m] 31)) w2.heap.size (opX 2 p m nd (.slice a0 l0 c0)) 31) := hide (Blk.new w2 _ _)
  have Z3 : Hid ((w2.alloc (.cells #[.int .i64 2, .int .i64 nd.kind, .int .i64 nd.op, .int .i64 nd.num, .string nd.text, .int .i64 nd.ref.row, .int .i64 nd.ref.col, .bool nd.ref.pr, .bool nd.ref.pc, .int .i64 nd.to.row, .int .i64 nd.to.col, .bool nd.to.pr, .bool nd.to.pc, .int .i64 nd.fn, .slice a0 l0 c0, .int .i64 p, .int .i64 m] 31)).heap.size = w2.heap.size + 1) := hide (by simp)
  go_wp2_with (refine wpList_load_blk rfl 29 _ rfl _ rfl _ (by with_reducible exact TB3.out) _ Try.underlying29 rfl (exC_info _ _) ?_)
  clear y0 y1 y2 y3 y4 y5 y6 y7 y8 y9 y10 y11 y12 y13 TB2 B2
  obtain ⟨w3, hw3⟩ : ∃ w3, (w2.alloc (.cells #[.int .i64 2, .int .i64 nd.kind, .int .i64 nd.op, .int .i64 nd.num, .string nd.text, .int .i64 nd.ref.row, .int .i64 nd.ref.col, .bool nd.ref.pr, .bool nd.ref.pc, .int .i64 nd.to.row, .int .i64 nd.to.col, .bool nd.to.pr, .bool nd.to.pc, .int .i64 nd.fn, .slice a0 l0 c0, .int .i64 p, .int .i64 m] 31)) = w3 := ⟨_, rfl⟩
  rw [hw3] at B3 TB3 OB3 Z3 ⊢
  clear hw3
  refine (HC.out w3 B3.out).mono ?_
  intro e w4 hh
  clear HC
  by_cases hM : ¬ mayB p 0 = true
  · rw [if_neg hM] at hh
    obtain ⟨rfl, hb⟩ := hh.bad
    have hp := nmay_r (p := p) (by omega) hM
    have B5 := hide (step (step (next B3.out hb) (exO nd0 (.slice none 0 0))) (exO nd0 (.slice none 0 0)))
    have hs1 := run_put1 w4 nd0 none 0 0 (.cells #[.int .i64 0, .int .i64 0, .int .i64 0, .string { data := #[] }, .int .i64 0, .int .i64 0, .bool false, .bool false, .int .i64 0, .int .i64 0, .bool false, .bool false, .int .i64 0, .slice none 0 0] 29)
    have hs2 := run_put2 w4 (exO nd0 (.slice none 0 0)) nd0 none 0 0
    clear hh hb hM B3 TB3 OB3 Z3 HB2 HR2 hbk hrl hbare hsty her1 hsb hcn hmx hsx hnx wn
    go_wp2_with fail
    go_ret
    exact ⟨rfl, B5.out⟩
  replace hM := Classical.byContradiction hM
  rw [if_pos hM] at hh her1
  obtain ⟨ax, lx, cx, bs, ay, ly, cy, rfl, hN, hb⟩ := hh.ok
  have T4 := hide (hN.ow.in' (m := (· < w4.heap.size)) _ (fun k hk => (hN.at' k hk).2) hsx.out)
  have NX := hide hN
  have B5 := hide (step (step (next B3.out hb) (exO xn (.slice ax lx cx))) (exO xn (.slice ay ly cy)))
  have D5 := hide (step (step (Below.refl w4.heap.size w4) (exO xn (.slice ax lx cx))) (exO xn (.slice ay ly cy)))
  have TB5 : Hid (Blk ((w4.alloc (exO xn (.slice ax lx cx))).alloc (exO xn (.slice ay ly cy))) w.heap.size (exC nd (.slice a0 l0 c0)) 29) := hide (((TB3.out.keep hb).alloc _).alloc _)
  have OB5 : Hid (Blk ((w4.alloc (exO xn (.slice ax lx cx))).alloc (exO xn (.slice ay ly cy))) w2.heap.size (opX 2 p m nd (.slice a0 l0 c0)) 31) := hide (((OB3.out.keep hb).alloc _).alloc _)
  have XB5 : Hid (Blk ((w4.alloc (exO xn (.slice ax lx cx))).alloc (exO xn (.slice ay ly cy))) w4.heap.size (exC xn (.slice ax lx cx)) 29) := hide ((Blk.new w4 _ _).alloc _)
  have TX5 : Hid (Tree ((w4.alloc (exO xn (.slice ax lx cx))).alloc (exO xn (.slice ay ly cy))) (exV xn (.slice ax lx cx)) (.mk xn xk)) := hide (((show Tree w4 _ _ from T4.out).alloc _).alloc _)
  have hz34 : Hid (w3.heap.size ≤ w4.heap.size) := hide hb.size
  have hs1 := run_put1 w4 xn ax lx cx (.cells #[.int .i64 0, .int .i64 0, .int .i64 0, .string { data := #[] }, .int .i64 0, .int .i64 0, .bool false, .bool false, .int .i64 0, .int .i64 0, .bool false, .bool false, .int .i64 0, .slice none 0 0] 29)
  have hs2 := run_put2 w4 (exO xn (.slice ax lx cx)) xn ay ly cy
  clear hh hb hM hN B3 TB3 OB3 T4
  go_wp2_with fail
  obtain ⟨w5, hw5⟩ : ∃ w5, (w4.alloc (exO xn (.slice ax lx cx))).alloc (exO xn (.slice ay ly cy)) = w5 := ⟨_, rfl⟩
  rw [hw5] at B5 D5 TB5 OB5 XB5 TX5 ⊢
  clear hw5 hs1 hs2
  -- what comes may be, and is bare as t
  have HX1 : Hid (∀ w', Below w5.heap.size w5 w' → Calls Try.prog 13 #[lit14 xn (.slice ax lx cx)] w' fun e w'' => e = .returned (.int .i64 0) ∧ Below w'.heap.size w' w'') := hide (fun w' h => by have := may_any (.mk xn xk) _ w' (TX5.out.step h); rw [hmx.out] at this; exact this)
  have HX2 : Hid (∀ w', Below w5.heap.size w5 w' → Calls Try.prog 14 #[lit14 xn (.slice ax lx cx)] w' fun e w'' => NewP w' (.mk bn bk) e w'') := hide (fun w' h => by have := bare_any (.mk xn xk) _ w' (TX5.out.step h) hnx.out; rw [hbare.out] at this; exact this)
  have HX3 : Hid (∀ w', Below w5.heap.size w5 w' → Calls Try.prog 14 #[lit14 nd (.slice a0 l0 c0)] w' fun e w'' => NewP w' (.mk bn bk) e w'') := hide (fun w' h => HB2.out w' (next B5.out h))
  refine reg6b XB5.out TB5.out hsb.out HX1.out HX2.out HX3.out ?_
  intro w6 x68 x69 x70 x71 x72 x73 x74 x75 x76 x77 hb
  clear HX1 HX2 HX3 HB2 hbare hsb
  have B6 := hide (next B5.out hb)
  have D6 := hide (next D5.out hb)
  have TB6 := hide (TB5.out.keep hb)
  have OB6 := hide (OB5.out.keep hb)
  have XB6 := hide (XB5.out.keep hb)
  have TX6 := hide (TX5.out.step hb)
  clear hb B5 D5 TB5 OB5 XB5 TX5
  -- what stands ahead stays
  go_upto_region 13 with fail
  go_cut [88] from 79 to 87 (fun c wx => c = .bool false ∧ Hid (Below w6.heap.size w6 wx))
  case first =>
    go_wp2_with (refine wpList_load_blk rfl 29 _ rfl _ rfl _ (by with_reducible exact TB6.out) _ Try.underlying29 rfl (exC_info _ _) ?_)
    refine (ahead_any p false (.mk nd ks) _ w6 (ht.out.step B6.out) hn.out).mono ?_
    rintro e w6a ⟨rfl, hb⟩
    have D6a := hide hb
    have TB6a := hide (TB6.out.keep hb)
    have XB6a := hide (XB6.out.keep hb)
    by_cases hA : ahdE p false (.mk nd ks) = true
    · have HEa := leq_any (.mk xn xk) (.mk nd ks) _ _ w6a (TX6.out.step hb) (ht.out.step (next B6.out hb))
      rw [hsty.out hA, same_selfE] at HEa
      rw [hA]
      replace HEa := hide HEa
      clear hA hb
      go_wp2_with (first
        | (refine wpList_load_blk_g rfl 29 _ rfl _ rfl _ (by with_reducible exact XB6a.out) _ Try.underlying29 rfl (exC_info _ _) ?_)
        | (refine wpList_load_blk_g rfl 29 _ rfl _ rfl _ (by with_reducible exact TB6a.out) _ Try.underlying29 rfl (exC_info _ _) ?_)
        | (go_at_call 10; refine HEa.out.mono ?_; rintro e w6b ⟨rfl, h7⟩; have D6b := hide (next D6a.out h7); clear h7))
      go_meet
      exact ⟨rfl, D6b⟩
    · obtain hA2 : ahdE p false (.mk nd ks) = false := by cases h : ahdE p false (.mk nd ks); rfl; exact absurd h hA
      rw [hA2]
      clear hA hA2 hb
      go_wp2_with fail
      go_meet
      exact ⟨rfl, D6a⟩
  case rest =>
    obtain ⟨rfl, hcw⟩ := hcut
    obtain ⟨w7, hw7⟩ : ∃ w7, wc = w7 := ⟨_, rfl⟩
    rw [hw7] at hcw ⊢
    clear hw7
    have B7 := hide (next B6.out hcw.out)
    have D7 := hide (next D6.out hcw.out)
    have TB7 := hide (TB6.out.keep hcw.out)
    have OB7 := hide (OB6.out.keep hcw.out)
    have XB7 := hide (XB6.out.keep hcw.out)
    have TX7 := hide (TX6.out.step hcw.out)
    clear B6 D6 TB6 OB6 XB6 TX6 hsty hcw
    go_wp2_with (first
      | (refine wpList_load_blk rfl 29 _ rfl _ rfl _ (by with_reducible exact XB7.out) _ Try.underlying29 rfl (exC_info _ _) ?_)
      | (refine wpList_load_blk rfl 29 _ rfl _ rfl _ (by with_reducible exact TB7.out) _ Try.underlying29 rfl (exC_info _ _) ?_))
    refine (lost_any (.mk xn xk) (.mk nd ks) _ _ w7 TX7.out (ht.out.step B7.out) hnx.out hn.out).mono ?_
    rintro e w8 ⟨rfl, hb⟩
    have B8 := hide (next B7.out hb)
    have D8 := hide (next D7.out hb)
    have TB8 := hide (TB7.out.keep hb)
    have OB8 := hide (OB7.out.keep hb)
    have XB8 := hide (XB7.out.keep hb)
    have TX8 := hide (TX7.out.step hb)
    clear hb B7 D7 TB7 OB7 XB7 TX7
    by_cases hq : ¬ refsE (.mk xn xk) = refsE (.mk nd ks)
    · rw [decide_eq_true hq]
      have hlt : (refsE (.mk xn xk) : Int) < (refsE (.mk nd ks) : Int) := by have := hrl.out.1; omega
      obtain ⟨x0, x1, x2, x3, x4, x5, x6, x7, x8, x9, x10, x11, x12, x13⟩ := XB8.out.c14
      obtain ⟨y0, y1, y2, y3, y4, y5, y6, y7, y8, y9, y10, y11, y12, y13⟩ := TB8.out.c14
      replace x0 := cell_rg x0
      replace x1 := cell_rg x1
      replace x2 := cell_rg x2
      replace x3 := cell_rg x3
      replace x4 := cell_rg x4
      replace x5 := cell_rg x5
      replace x6 := cell_rg x6
      replace x7 := cell_rg x7
      replace x8 := cell_rg x8
      replace x9 := cell_rg x9
      replace x10 := cell_rg x10
      replace x11 := cell_rg x11
      replace x12 := cell_rg x12
      replace x13 := cell_rg x13
      replace y0 := cell_rg y0
      replace y1 := cell_rg y1
      replace y2 := cell_rg y2
      replace y3 := cell_rg y3
      replace y4 := cell_rg y4
      replace y5 := cell_rg y5
      replace y6 := cell_rg y6
      replace y7 := cell_rg y7
      replace y8 := cell_rg y8
      replace y9 := cell_rg y9
      replace y10 := cell_rg y10
      replace y11 := cell_rg y11
      replace y12 := cell_rg y12
      replace y13 := cell_rg y13
      have k1 := fun d' os => Calls.regrown_of (show Calls Try.prog 17 #[lit14 xn (.slice ax lx cx)] (grow (redrawn w8 d') os) (fun e w'' => e = .returned (.int .i64 (refsE (.mk xn xk) : Int)) ∧ Below (grow (redrawn w8 d') os).heap.size (grow (redrawn w8 d') os) w'') from refs_any (.mk xn xk) _ (grow (redrawn w8 d') os) (TX8.out.step (below_regrown w8 d' os)) hnx.out)
      have k2 := fun d' os => Calls.regrown_of (HR2.out (grow (redrawn w8 d') os) (next B8.out (below_regrown w8 d' os)))
      go_wp2_with fail
      refine wp_region_quiet_below (by kernel_rfl) (by kernel_rfl) ?_
      repeat (go_big_quiet_step (first | (with_reducible exact k1 _ _) | (with_reducible exact k2 _ _)))
      refine wpQuiet_nil ?_
      intro _ hw'
      obtain ⟨⟨dq1, osq1⟩, hw''⟩ := hw'
      subst hw''
      go_wp2_with fail
      go_ret
      exact ⟨rfl, next B8.out (below_regrown _ dq1 osq1)⟩
    replace hq := Classical.byContradiction hq
    rw [decide_eq_false (fun h => h hq)]
    have hback := hbk.out (hrl.out.2 hq)
    clear hrl hq HR2 hbk
    -- o.T, o.N = x, -n
    have hwn := wn.out
    have hz3 := Z3.out
    have hsz : Hid (w3.heap.size ≤ w8.heap.size) := hide (Nat.le_trans hz34.out D8.out.size)
    have hbo : Hid (w2.heap.size < w3.heap.size) := hide (by omega)
    clear hz3
    have hrun := run_put (P := Try.prog) (w := w8) (b := w2.heap.size) (o := 1) xn ax lx cx (there_of_row OB8.out (by show 15 ≤ 17; decide))
    obtain ⟨w9, hw9⟩ : ∃ w9, w8.setCells w2.heap.size 1 (exC xn (.slice ax lx cx)).toList = w9 := ⟨_, rfl⟩
    have OB9 : Blk w9 w2.heap.size (opX 2 p m xn (.slice ax lx cx)) 31 := by rw [← hw9]; exact opX_put OB8.out xn _
    rw [hw9] at hrun
    have c16 := OB9.at' 16
    have f16 := OB9.fr 16
    have OB10 : Blk (w9.setCell ⟨w2.heap.size, 16, none⟩ (.int .i64 (-m))) w2.heap.size (opX 2 p (-m) xn (.slice ax lx cx)) 31 := opX_putN OB9 (-m)
    have heq : ∀ k, k ≠ w2.heap.size → (w9.setCell ⟨w2.heap.size, 16, none⟩ (.int .i64 (-m))).heap[k]? = w8.heap[k]? := fun k hk => by rw [Below.heap_setCell _ _ _ k hk, ← hw9]; exact heap_setCells _ _ _ _ k hk
    have hzz : (w9.setCell ⟨w2.heap.size, 16, none⟩ (.int .i64 (-m))).heap.size = w8.heap.size := by rw [← hw9]; simp [size_setCells]
    have B10 : Below w.heap.size w (w9.setCell ⟨w2.heap.size, 16, none⟩ (.int .i64 (-m))) := by rw [← hw9]; exact (below_setCells B8.out (Nat.le_of_lt hbw.out) _ _).setCell (Nat.le_of_lt hbw.out) _
    have TX10 := new_put NX.out D8.out heq hzz hbo.out hsx.out
    have TB10 : Blk (w9.setCell ⟨w2.heap.size, 16, none⟩ (.int .i64 (-m))) w.heap.size (exC nd (.slice a0 l0 c0)) 29 := (heq _ (by have h1 := hbw.out; omega)).trans TB8.out
    have XB10 : Blk (w9.setCell ⟨w2.heap.size, 16, none⟩ (.int .i64 (-m))) w4.heap.size (exC xn (.slice ax lx cx)) 29 := (heq _ (by have h1 := hbo.out; have h2 := hz34.out; omega)).trans XB8.out
    replace OB10 := hide OB10
    replace B10 := hide B10
    replace TX10 := hide TX10
    replace TB10 := hide TB10
    replace XB10 := hide XB10
    replace OB9 := hide OB9
    clear heq hzz
    go_wp2_with (first
      | (refine wpList_load_blk rfl 29 _ rfl _ rfl _ (by with_reducible exact XB8.out) _ Try.underlying29 rfl (exC_info _ _) ?_)
      | (refine wpList_load_blk rfl 29 _ rfl _ rfl _ (by with_reducible exact XB10.out) _ Try.underlying29 rfl (exC_info _ _) ?_)
      | (refine wpList_load_blk rfl 31 _ rfl _ rfl _ (by with_reducible exact OB10.out) _ Try.underlying31 rfl (opX_info _ _ _ _ _) ?_))
    obtain ⟨w10, hw10⟩ : ∃ w10, w9.setCell ⟨w2.heap.size, 16, none⟩ (.int .i64 (-m)) = w10 := ⟨_, rfl⟩
    rw [hw10] at OB10 B10 TX10 TB10 XB10 ⊢
    clear hw10 hrun hw9 c16 f16 OB9 OB8 XB8 TB8 TX8 B8
    have HC := call_any 2 p (-m) (.mk xn xk) xn xn ax ax lx cx lx cx w10 TX10.out TX10.out
    rw [hcn.out, hback, her1.out] at HC
    refine HC.mono ?_
    intro e w11 hh
    obtain ⟨au, lu, cu, bu, av, lv, cv, rfl, hN, hb⟩ := hh.ok
    have T11 := hide (hN.ow.in' (m := (· < w11.heap.size)) _ (fun k hk => (hN.at' k hk).2) hsmT.out)
    have B12 := hide (step (step (next B10.out hb) (exO nd (.slice au lu cu))) (exO nd (.slice av lv cv)))
    have TB12 : Hid (Blk ((w11.alloc (exO nd (.slice au lu cu))).alloc (exO nd (.slice av lv cv))) w.heap.size (exC nd (.slice a0 l0 c0)) 29) := hide (((TB10.out.keep hb).alloc _).alloc _)
    have YB12 : Hid (Blk ((w11.alloc (exO nd (.slice au lu cu))).alloc (exO nd (.slice av lv cv))) w11.heap.size (exC nd (.slice au lu cu)) 29) := hide ((Blk.new w11 _ _).alloc _)
    have HE := hide (leq_any (.mk nd ks) (.mk nd ks) (exV nd (.slice au lu cu)) (exV nd (.slice a0 l0 c0)) ((w11.alloc (exO nd (.slice au lu cu))).alloc (exO nd (.slice av lv cv))) (((show Tree w11 _ _ from T11.out).alloc _).alloc _) (ht.out.step B12.out))
    rw [same_selfE] at HE
    have hs1 := run_put1 w11 nd au lu cu (.cells #[.int .i64 0, .int .i64 0, .int .i64 0, .string { data := #[] }, .int .i64 0, .int .i64 0, .bool false, .bool false, .int .i64 0, .int .i64 0, .bool false, .bool false, .int .i64 0, .slice none 0 0] 29)
    have hs2 := run_put2 w11 (exO nd (.slice au lu cu)) nd av lv cv
    clear hh hb hN HC B10 TX10 TB10 XB10 OB10 T11
    go_wp2_with (first
      | (refine wpList_load_blk_g rfl 29 _ rfl _ rfl _ (by with_reducible exact YB12.out) _ Try.underlying29 rfl (exC_info _ _) ?_)
      | (refine wpList_load_blk_g rfl 29 _ rfl _ rfl _ (by with_reducible exact TB12.out) _ Try.underlying29 rfl (exC_info _ _) ?_)
      | (go_at_call 10; refine HE.out.mono ?_; rintro e w13 ⟨rfl, h7⟩; have B13 := hide (next B12.out h7); clear h7))
    go_ret
    exact ⟨rfl, B13.out⟩
end Go.Proofs.Ytbljdmegdejboaa
