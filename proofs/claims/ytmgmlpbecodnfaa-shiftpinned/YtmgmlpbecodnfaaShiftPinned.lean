/- quadrillelaw12.ShiftPinned: what is pinned stays, of what is not both numbers change alike. -/
import Derived.Test.YtmgmlpbecodnfaaBegun12
namespace Go.Proofs.Ytmgmlpbecodnfaa
open Go.RowKit Go.Sort
set_option linter.unusedVariables false

abbrev ndP (r c : Int) (p : Bool) : Nd := ⟨5, 0, 0, no, ⟨r, c, p, p⟩, rf0, 0⟩
theorem may_ref (r c : Int) (p : Bool) : mayR (.mk (ndP r c p) []) = if mayB r c then 0 else 22 := by
  have hf : fitB (.mk (ndP r c p) []) = true := by
    refine decide_eq_true ⟨?_, ?_, ?_⟩
    · rw [nodesE, nodesL]; omega
    · rw [depthE, depthL]; omega
    · rw [bytesE, bytesL]; rw [if_neg (show ¬ (5 : Int) = 2 by decide)]; omega
  have ha : allE (.mk (ndP r c p) []) = mayB r c := by
    rw [allE, allL]
    show ((mayB r c && true && true) && true) = mayB r c
    cases mayB r c <;> rfl
  unfold mayR
  rw [hf, ha]
  rfl
theorem pin_stay (r c dr dc : Int) (h : mayB r c = true) : movE (pasR dr dc) (.mk (ndP r c true) []) = .mk (ndP r c true) [] := by
  rw [movE, movL, movN_5 _ rfl rfl]
  show Ex.mk (if mayB r c then (ndP r c true) else lostN) [] = _
  rw [h]; rfl
theorem free_on (r c dr dc : Int) (h : mayB (stp r dr) (stp c dc) = true) : movE (pasR dr dc) (.mk (ndP r c false) []) = .mk (ndR (stp r dr) (stp c dc)) [] := by
  rw [movE, movL, movN_5 _ rfl rfl]
  show Ex.mk (if mayB (stp r dr) (stp c dc) then (ndR (stp r dr) (stp c dc)) else lostN) [] = _
  rw [h]; rfl
theorem free_off (r c dr dc : Int) (h : mayB (stp r dr) (stp c dc) = false) : movE (pasR dr dc) (.mk (ndP r c false) []) = .mk lostN [] := by
  rw [movE, movL, movN_5 _ rfl rfl]
  show Ex.mk (if mayB (stp r dr) (stp c dc) then (ndR (stp r dr) (stp c dc)) else lostN) [] = _
  rw [h]; rfl
theorem Blk.put2 {w : World} {b : Nat} {r c : Int} {p q : Bool} (h : Blk w b (rfA ⟨r, c, p, q⟩) 26) (x y : Bool) : Blk ((w.setCell ⟨b, 2, none⟩ (.bool x)).setCell ⟨b, 3, none⟩ (.bool y)) b (rfA ⟨r, c, x, y⟩) 26 := (h.set 2 (.bool x)).set 3 (.bool y)
theorem below_put2 {N : Nat} {a w : World} (h : Below N a w) {b : Nat} (hb : N ≤ b) (x y : Value) : Below N a ((w.setCell ⟨b, 2, none⟩ x).setCell ⟨b, 3, none⟩ y) := (h.setCell (p := ⟨b, 2, none⟩) hb _).setCell (p := ⟨b, 3, none⟩) hb _
theorem blk_put2 {w : World} {b g : Nat} {x y : Value} {vs : Array Value} {t : TypeId} (h : Blk w g vs t) (hne : g ≠ b) : Blk ((w.setCell ⟨b, 2, none⟩ x).setCell ⟨b, 3, none⟩ y) g vs t := blk_other (blk_other h hne) hne
theorem leaf_any {w : World} {n : Nd} {a : Option Addr} {len cap : Nat} (h : Tree w (exV n (.slice a len cap)) (.mk n [])) (w' : World) : Tree w' (exV n (.slice a len cap)) (.mk n []) := by
  unfold Tree In at h ⊢
  obtain ⟨a', len', cap', hv, hl, h1, h2, _⟩ := h
  exact ⟨a', len', cap', hv, hl, h1, h2, .inl hl⟩
set_option maxHeartbeats 4000000 in
set_option maxRecDepth 100000 in
theorem shiftPinned_walk (row col : Int) (pr pc : Bool) (dr : Int) (hdr : (Lit.int .i64 dr).wf = true) (dc : Int) (hdc : (Lit.int .i64 dc).wf = true) (w : World) : Calls Try.prog 5 #[.agg #[.int .i64 row, .int .i64 col, .bool pr, .bool pc], .int .i64 dr, .int .i64 dc] w fun e w' => e = .returned (.bool true) ∧ Below w.heap.size w w' := by
  clear hdr hdc
  have R0 := Blk.new w (rfA ⟨row, col, pr, pc⟩) 26
  have B0 := hide (step (Below.refl w.heap.size w) (rfO ⟨row, col, pr, pc⟩))
  go_enter Try.func5, Try.ntmps5
  go_wp2_with fail
  refine (begun12 _).mono ?_
  rintro e w1 ⟨rfl, hb⟩
  have B1 := hide (next B0.out hb)
  have R1 := R0.keep hb
  clear hb R0
  have q0 := R1.at' 0
  have q1 := R1.at' 1
  have q2 := R1.at' 2
  have q3 := R1.at' 3
  have f2 := R1.fr 2
  have f3 := R1.fr 3
  simp [rfA] at q0 q1 q2 q3
  replace R1 := hide R1
  go_wp2_with fail
  have B2 := hide (step (below_put2 B1.out (Nat.le_refl _) (.bool true) (.bool true)) (.cells #[.int .i64 5, .int .i64 0, .int .i64 0, .string { data := #[] }, .int .i64 row, .int .i64 col, .bool true, .bool true, .int .i64 0, .int .i64 0, .bool false, .bool false, .int .i64 0, .slice none 0 0] 29))
  have R2 : Hid (Blk (((w1.setCell ⟨w.heap.size, 2, none⟩ (.bool true)).setCell ⟨w.heap.size, 3, none⟩ (.bool true)).alloc (.cells #[.int .i64 5, .int .i64 0, .int .i64 0, .string { data := #[] }, .int .i64 row, .int .i64 col, .bool true, .bool true, .int .i64 0, .int .i64 0, .bool false, .bool false, .int .i64 0, .slice none 0 0] 29)) w.heap.size (rfA ⟨row, col, true, true⟩) 26) := hide ((R1.out.put2 true true).alloc _)
  have S1 : ((w1.setCell ⟨w.heap.size, 2, none⟩ (.bool true)).setCell ⟨w.heap.size, 3, none⟩ (.bool true)).heap.size = w1.heap.size := by simp
  have X2 : Hid (Blk (((w1.setCell ⟨w.heap.size, 2, none⟩ (.bool true)).setCell ⟨w.heap.size, 3, none⟩ (.bool true)).alloc (.cells #[.int .i64 5, .int .i64 0, .int .i64 0, .string { data := #[] }, .int .i64 row, .int .i64 col, .bool true, .bool true, .int .i64 0, .int .i64 0, .bool false, .bool false, .int .i64 0, .slice none 0 0] 29)) w1.heap.size (exC (ndP row col true) (.slice none 0 0)) 29) := hide (by have := Blk.new ((w1.setCell ⟨w.heap.size, 2, none⟩ (.bool true)).setCell ⟨w.heap.size, 3, none⟩ (.bool true)) (exC (ndP row col true) (.slice none 0 0)) 29; rw [S1] at this; exact this)
  have L1 : w.heap.size < w1.heap.size := R1.out.lt
  obtain ⟨w2, hw2⟩ : ∃ w2, (((w1.setCell ⟨w.heap.size, 2, none⟩ (.bool true)).setCell ⟨w.heap.size, 3, none⟩ (.bool true)).alloc (.cells #[.int .i64 5, .int .i64 0, .int .i64 0, .string { data := #[] }, .int .i64 row, .int .i64 col, .bool true, .bool true, .int .i64 0, .int .i64 0, .bool false, .bool false, .int .i64 0, .slice none 0 0] 29)) = w2 := ⟨_, rfl⟩
  rw [hw2] at B2 R2 X2 ⊢
  clear hw2 S1 R1 q0 q1 q2 q3 f2 f3 B1 B0
  refine (may_any (.mk (ndP row col true) []) (.agg #[.int .i64 5, .int .i64 0, .int .i64 0, .string { data := #[] }, .int .i64 row, .int .i64 col, .bool true, .bool true, .int .i64 0, .int .i64 0, .bool false, .bool false, .int .i64 0, .slice none 0 0]) w2 (leaf_tree w2 (ndP row col true) (Nat.zero_le _))).mono ?_
  rw [may_ref]
  rintro e w3 ⟨rfl, hb⟩
  have B3 := hide (next B2.out hb)
  have R3 := hide (R2.out.keep hb)
  have X3 := hide (X2.out.keep hb)
  clear hb B2 R2 X2
  cases hm : mayB row col
  · go_wp2_with fail
    go_ret
    exact ⟨rfl, B3.out⟩
  have hm' := mayB_iff.1 hm
  go_wp2_with (refine wpList_load_blk rfl 29 _ rfl _ rfl _ (by with_reducible exact X3.out) _ Try.underlying29 rfl (exC_info _ _) ?_)
  refine (paste_any (.mk (ndP row col true) []) (exV (ndP row col true) (.slice none 0 0)) dr dc w3 (leaf_tree w3 (ndP row col true) (Nat.zero_le _))).mono ?_
  rw [may_ref, hm, pin_stay row col dr dc hm]
  intro e w4 hh
  obtain ⟨a4, l4, c4, rfl, T4, hb⟩ := hh.tree (sm_leaf (Nat.zero_le _))
  clear hh
  have B4 := hide (step (next B3.out hb) (exO (ndP row col true) (.slice a4 l4 c4)))
  have R4 : Hid (Blk (w4.alloc (exO (ndP row col true) (.slice a4 l4 c4))) w.heap.size (rfA ⟨row, col, true, true⟩) 26) := hide ((R3.out.keep hb).alloc _)
  have X4 : Hid (Blk (w4.alloc (exO (ndP row col true) (.slice a4 l4 c4))) w1.heap.size (exC (ndP row col true) (.slice none 0 0)) 29) := hide ((X3.out.keep hb).alloc _)
  have Y4 : Hid (Blk (w4.alloc (exO (ndP row col true) (.slice a4 l4 c4))) w4.heap.size (exC (ndP row col true) (.slice a4 l4 c4)) 29) := hide (Blk.new w4 _ _)
  have L4 : w1.heap.size < w4.heap.size := Nat.lt_of_lt_of_le X3.out.lt hb.size
  have U4 := hide (T4.alloc (exO (ndP row col true) (.slice a4 l4 c4)))
  have hsn4 := run_putnew w4 (ndP row col true) a4 l4 c4
  have z0 := R4.out.at' 0
  have z1 := R4.out.at' 1
  have z2 := R4.out.at' 2
  have z3 := R4.out.at' 3
  have g2 := R4.out.fr 2
  have g3 := R4.out.fr 3
  simp only [rfA, List.getElem?_toArray, List.getElem?_cons_zero, List.getElem?_cons_succ] at z0 z1 z2 z3
  clear hb B3 R3 X3 T4
  go_wp2_with fail
  have B5 := hide (step (below_put2 B4.out (Nat.le_refl _) (.bool false) (.bool false)) (.cells #[.int .i64 5, .int .i64 0, .int .i64 0, .string { data := #[] }, .int .i64 row, .int .i64 col, .bool false, .bool false, .int .i64 0, .int .i64 0, .bool false, .bool false, .int .i64 0, .slice none 0 0] 29))
  have R5 : Hid (Blk ((((w4.alloc (exO (ndP row col true) (.slice a4 l4 c4))).setCell ⟨w.heap.size, 2, none⟩ (.bool false)).setCell ⟨w.heap.size, 3, none⟩ (.bool false)).alloc (.cells #[.int .i64 5, .int .i64 0, .int .i64 0, .string { data := #[] }, .int .i64 row, .int .i64 col, .bool false, .bool false, .int .i64 0, .int .i64 0, .bool false, .bool false, .int .i64 0, .slice none 0 0] 29)) w.heap.size (rfA ⟨row, col, false, false⟩) 26) := hide ((R4.out.put2 false false).alloc _)
  have X5 : Hid (Blk ((((w4.alloc (exO (ndP row col true) (.slice a4 l4 c4))).setCell ⟨w.heap.size, 2, none⟩ (.bool false)).setCell ⟨w.heap.size, 3, none⟩ (.bool false)).alloc (.cells #[.int .i64 5, .int .i64 0, .int .i64 0, .string { data := #[] }, .int .i64 row, .int .i64 col, .bool false, .bool false, .int .i64 0, .int .i64 0, .bool false, .bool false, .int .i64 0, .slice none 0 0] 29)) w1.heap.size (exC (ndP row col true) (.slice none 0 0)) 29) := hide ((blk_put2 X4.out (by omega)).alloc _)
  have Y5 : Hid (Blk ((((w4.alloc (exO (ndP row col true) (.slice a4 l4 c4))).setCell ⟨w.heap.size, 2, none⟩ (.bool false)).setCell ⟨w.heap.size, 3, none⟩ (.bool false)).alloc (.cells #[.int .i64 5, .int .i64 0, .int .i64 0, .string { data := #[] }, .int .i64 row, .int .i64 col, .bool false, .bool false, .int .i64 0, .int .i64 0, .bool false, .bool false, .int .i64 0, .slice none 0 0] 29)) w4.heap.size (exC (ndP row col true) (.slice a4 l4 c4)) 29) := hide ((blk_put2 Y4.out (by omega)).alloc _)
  obtain ⟨w5, hw5⟩ : ∃ w5, ((((w4.alloc (exO (ndP row col true) (.slice a4 l4 c4))).setCell ⟨w.heap.size, 2, none⟩ (.bool false)).setCell ⟨w.heap.size, 3, none⟩ (.bool false)).alloc (.cells #[.int .i64 5, .int .i64 0, .int .i64 0, .string { data := #[] }, .int .i64 row, .int .i64 col, .bool false, .bool false, .int .i64 0, .int .i64 0, .bool false, .bool false, .int .i64 0, .slice none 0 0] 29)) = w5 := ⟨_, rfl⟩
  rw [hw5] at B5 R5 X5 Y5 ⊢
  have TX := hide (leaf_any U4.out)
  clear hw5 R4 X4 Y4 z0 z1 z2 z3 g2 g3 B4 U4 hsn4 L1 L4
  have HP := hide (paste_any (.mk (ndP row col false) []) (.agg #[.int .i64 5, .int .i64 0, .int .i64 0, .string { data := #[] }, .int .i64 row, .int .i64 col, .bool false, .bool false, .int .i64 0, .int .i64 0, .bool false, .bool false, .int .i64 0, .slice none 0 0]) dr dc w5 (leaf_tree w5 (ndP row col false) (Nat.zero_le _)))
  rw [may_ref, hm] at HP
  cases hg : mayB (stp row dr) (stp col dc)
  · rw [free_off row col dr dc hg] at HP
    refine HP.out.mono ?_
    intro e w6 hh
    obtain ⟨a6, l6, c6, rfl, T6, hb⟩ := hh.tree (sm_leaf (Nat.zero_le _))
    clear hh HP
    have B7 := hide (step (next B5.out hb) (exO lostN (.slice a6 l6 c6)))
    have R7 : Hid (Blk (w6.alloc (exO lostN (.slice a6 l6 c6))) w.heap.size (rfA ⟨row, col, false, false⟩) 26) := hide ((R5.out.keep hb).alloc _)
    have X7 : Hid (Blk (w6.alloc (exO lostN (.slice a6 l6 c6))) w1.heap.size (exC (ndP row col true) (.slice none 0 0)) 29) := hide ((X5.out.keep hb).alloc _)
    have Y7 : Hid (Blk (w6.alloc (exO lostN (.slice a6 l6 c6))) w4.heap.size (exC (ndP row col true) (.slice a4 l4 c4)) 29) := hide ((Y5.out.keep hb).alloc _)
    have Z7 : Hid (Blk (w6.alloc (exO lostN (.slice a6 l6 c6))) w6.heap.size (exC lostN (.slice a6 l6 c6)) 29) := hide (Blk.new w6 _ _)
    have TY := hide (leaf_any T6)
    have hsn6 := run_putnew w6 lostN a6 l6 c6
    have HE := hide (fun w' => leq_any (.mk (ndP row col true) []) (.mk (ndP row col true) []) _ _ w' (TX.out w') (leaf_tree w' (ndP row col true) (Nat.zero_le _)))
    rw [same_selfE] at HE
    clear hb B5 R5 X5 Y5 T6 TX
    go_wp2_with (first
      | (refine wpList_load_blk_g rfl 29 _ rfl _ rfl _ (by with_reducible exact Y7.out) _ Try.underlying29 rfl (exC_info _ _) ?_)
      | (refine wpList_load_blk_g rfl 29 _ rfl _ rfl _ (by with_reducible exact X7.out) _ Try.underlying29 rfl (exC_info _ _) ?_))
    refine (HE.out _).mono ?_
    rintro e w8 ⟨rfl, hb⟩
    have B8 := hide (next B7.out hb)
    have R8 := hide (R7.out.keep hb)
    have Z8 := hide (Z7.out.keep hb)
    clear hb B7 R7 X7 Y7 Z7 hsn6 HE
    obtain ⟨y0, y1, y2, y3, y4, y5, y6, y7, y8, y9, y10, y11, y12, y13⟩ := Z8.out.c14
    dsimp only at y0 y1 y2 y3 y4 y5 y6 y7 y8 y9 y10 y11 y12 y13
    have r0 := R8.out.at' 0
    have r1 := R8.out.at' 1
    simp only [rfA, List.getElem?_toArray, List.getElem?_cons_zero, List.getElem?_cons_succ] at r0 r1
    have hg' : ¬ (0 ≤ stp row dr ∧ stp row dr < 65536 ∧ 0 ≤ stp col dc ∧ stp col dc < 702) := fun h => by rw [mayB_iff.2 h] at hg; cases hg
    unfold stp at hg'
    by_cases c0 : 1099511627776 < dr
    · clear hg'
      go_wp2_with fail
      go_ret
      exact ⟨rfl, B8.out⟩
    by_cases c1 : dr < -1099511627776
    · clear hg'
      go_wp2_with fail
      go_ret
      exact ⟨rfl, B8.out⟩
    by_cases c2 : 1099511627776 < dc
    · clear hg'
      go_wp2_with fail
      go_ret
      exact ⟨rfl, B8.out⟩
    by_cases c3 : dc < -1099511627776
    · clear hg'
      go_wp2_with fail
      go_ret
      exact ⟨rfl, B8.out⟩
    have wr := IntWalk.wrap64_in (row + dr) ⟨by omega, by omega⟩
    have wc := IntWalk.wrap64_in (col + dc) ⟨by omega, by omega⟩
    have er : -65536 ≤ dr → dr ≤ 65536 → stp row dr = row + dr := by unfold stp; omega
    have ec : -65536 ≤ dc → dc ≤ 65536 → stp col dc = col + dc := by unfold stp; omega
    have dd : row + dr < 0 ∨ 65535 < row + dr ∨ col + dc < 0 ∨ 701 < col + dc := by omega
    have qr0 := cell_rg r0
    have qr1 := cell_rg r1
    clear hg' er ec hg
    go_wp2_with fail
    refine wp_region_quiet_below (by kernel_rfl) (by kernel_rfl) ?_
    repeat (go_big_quiet_step (fail))
    refine wpQuiet_nil ?_
    intro _ hw'
    obtain ⟨⟨dq1, osq1⟩, hw''⟩ := hw'
    subst hw''
    have B9 := hide (next B8.out (below_regrown _ dq1 osq1))
    have Z9 := hide (Z8.out.keep (below_regrown _ dq1 osq1))
    obtain ⟨w9, hw9⟩ : ∃ w9, grow (redrawn w8 dq1) osq1 = w9 := ⟨_, rfl⟩
    rw [hw9] at B9 Z9 ⊢
    clear hw9 qr0 qr1 r0 r1 R8 B8 Z8 y0 y1 y2 y3 y4 y5 y6 y7 y8 y9 y10 y11 y12 y13
    obtain ⟨y0, y1, y2, y3, y4, y5, y6, y7, y8, y9, y10, y11, y12, y13⟩ := Z9.out.c14
    dsimp only at y0 y1 y2 y3 y4 y5 y6 y7 y8 y9 y10 y11 y12 y13
    by_cases d0 : row + dr < 0
    · clear dd
      go_wp2_with fail
      go_ret
      exact ⟨rfl, B9.out⟩
    by_cases d1 : 65535 < row + dr
    · clear dd
      go_wp2_with fail
      go_ret
      exact ⟨rfl, B9.out⟩
    by_cases d2 : col + dc < 0
    · clear dd
      go_wp2_with fail
      go_ret
      exact ⟨rfl, B9.out⟩
    have d3 : 701 < col + dc := by omega
    clear dd
    go_wp2_with fail
    go_ret
    exact ⟨rfl, B9.out⟩
  · rw [free_on row col dr dc hg] at HP
    refine HP.out.mono ?_
    intro e w6 hh
    obtain ⟨a6, l6, c6, rfl, T6, hb⟩ := hh.tree (sm_leaf (Nat.zero_le _))
    clear hh HP
    have B7 := hide (step (next B5.out hb) (exO (ndR (stp row dr) (stp col dc)) (.slice a6 l6 c6)))
    have R7 : Hid (Blk (w6.alloc (exO (ndR (stp row dr) (stp col dc)) (.slice a6 l6 c6))) w.heap.size (rfA ⟨row, col, false, false⟩) 26) := hide ((R5.out.keep hb).alloc _)
    have X7 : Hid (Blk (w6.alloc (exO (ndR (stp row dr) (stp col dc)) (.slice a6 l6 c6))) w1.heap.size (exC (ndP row col true) (.slice none 0 0)) 29) := hide ((X5.out.keep hb).alloc _)
    have Y7 : Hid (Blk (w6.alloc (exO (ndR (stp row dr) (stp col dc)) (.slice a6 l6 c6))) w4.heap.size (exC (ndP row col true) (.slice a4 l4 c4)) 29) := hide ((Y5.out.keep hb).alloc _)
    have Z7 : Hid (Blk (w6.alloc (exO (ndR (stp row dr) (stp col dc)) (.slice a6 l6 c6))) w6.heap.size (exC (ndR (stp row dr) (stp col dc)) (.slice a6 l6 c6)) 29) := hide (Blk.new w6 _ _)
    have TY := hide (leaf_any T6)
    have hsn6 := run_putnew w6 (ndR (stp row dr) (stp col dc)) a6 l6 c6
    have HE := hide (fun w' => leq_any (.mk (ndP row col true) []) (.mk (ndP row col true) []) _ _ w' (TX.out w') (leaf_tree w' (ndP row col true) (Nat.zero_le _)))
    rw [same_selfE] at HE
    clear hb B5 R5 X5 Y5 T6 TX
    go_wp2_with (first
      | (refine wpList_load_blk_g rfl 29 _ rfl _ rfl _ (by with_reducible exact Y7.out) _ Try.underlying29 rfl (exC_info _ _) ?_)
      | (refine wpList_load_blk_g rfl 29 _ rfl _ rfl _ (by with_reducible exact X7.out) _ Try.underlying29 rfl (exC_info _ _) ?_))
    refine (HE.out _).mono ?_
    rintro e w8 ⟨rfl, hb⟩
    have B8 := hide (next B7.out hb)
    have R8 := hide (R7.out.keep hb)
    have Z8 := hide (Z7.out.keep hb)
    clear hb B7 R7 X7 Y7 Z7 hsn6 HE
    obtain ⟨y0, y1, y2, y3, y4, y5, y6, y7, y8, y9, y10, y11, y12, y13⟩ := Z8.out.c14
    dsimp only at y0 y1 y2 y3 y4 y5 y6 y7 y8 y9 y10 y11 y12 y13
    have r0 := R8.out.at' 0
    have r1 := R8.out.at' 1
    simp only [rfA, List.getElem?_toArray, List.getElem?_cons_zero, List.getElem?_cons_succ] at r0 r1
    have hg' := mayB_iff.1 hg; unfold stp at hg'
    have c0 : ¬ 1099511627776 < dr := by omega
    have c1 : ¬ dr < -1099511627776 := by omega
    have c2 : ¬ 1099511627776 < dc := by omega
    have c3 : ¬ dc < -1099511627776 := by omega
    have wr := IntWalk.wrap64_in (row + dr) ⟨by omega, by omega⟩
    have wc := IntWalk.wrap64_in (col + dc) ⟨by omega, by omega⟩
    have er : -65536 ≤ dr → dr ≤ 65536 → stp row dr = row + dr := by unfold stp; omega
    have ec : -65536 ≤ dc → dc ≤ 65536 → stp col dc = col + dc := by unfold stp; omega
    have d0 : ¬ row + dr < 0 := by omega
    have d1 : ¬ 65535 < row + dr := by omega
    have d2 : ¬ col + dc < 0 := by omega
    have d3 : ¬ 701 < col + dc := by omega
    replace er := er (by omega) (by omega)
    replace ec := ec (by omega) (by omega)
    rw [er, ec] at TY Z8
    have qr0 := cell_rg r0
    have qr1 := cell_rg r1
    clear hg' er ec hg
    go_wp2_with fail
    refine wp_region_quiet_below (by kernel_rfl) (by kernel_rfl) ?_
    repeat (go_big_quiet_step (fail))
    refine wpQuiet_nil ?_
    intro _ hw'
    obtain ⟨⟨dq1, osq1⟩, hw''⟩ := hw'
    subst hw''
    have B9 := hide (next B8.out (below_regrown _ dq1 osq1))
    have Z9 := hide (Z8.out.keep (below_regrown _ dq1 osq1))
    obtain ⟨w9, hw9⟩ : ∃ w9, grow (redrawn w8 dq1) osq1 = w9 := ⟨_, rfl⟩
    rw [hw9] at B9 Z9 ⊢
    clear hw9 qr0 qr1 r0 r1 R8 B8 Z8 y0 y1 y2 y3 y4 y5 y6 y7 y8 y9 y10 y11 y12 y13
    obtain ⟨y0, y1, y2, y3, y4, y5, y6, y7, y8, y9, y10, y11, y12, y13⟩ := Z9.out.c14
    dsimp only at y0 y1 y2 y3 y4 y5 y6 y7 y8 y9 y10 y11 y12 y13
    replace y0 := cell_rg y0
    replace y1 := cell_rg y1
    replace y2 := cell_rg y2
    replace y3 := cell_rg y3
    replace y4 := cell_rg y4
    replace y5 := cell_rg y5
    replace y6 := cell_rg y6
    replace y7 := cell_rg y7
    replace y8 := cell_rg y8
    replace y9 := cell_rg y9
    replace y10 := cell_rg y10
    replace y11 := cell_rg y11
    replace y12 := cell_rg y12
    replace y13 := cell_rg y13
    have K1 : Hid (∀ w', Calls Try.prog 13 #[.agg #[.int .i64 5, .int .i64 0, .int .i64 0, .string { data := #[] }, .int .i64 (row + dr), .int .i64 (col + dc), .bool false, .bool false, .int .i64 0, .int .i64 0, .bool false, .bool false, .int .i64 0, .slice a6 l6 c6], exV (ndR (row + dr) (col + dc)) (.slice none 0 0)] w' fun e w'' => e = .returned (.bool true) ∧ Below w'.heap.size w' w'') := hide (fun w' => by have := leq_any (refT (row + dr) (col + dc)) (refT (row + dr) (col + dc)) _ _ w' (TY.out w') (leaf_tree w' (ndR (row + dr) (col + dc)) (Nat.zero_le _)); rw [same_selfE] at this; exact this)
    have k0 := fun d' os => Calls.regrown_of ((ref_any (row + dr) (col + dc)).out (grow (redrawn w9 d') os))
    have k1 := fun d' os => Calls.regrown_of (K1.out (grow (redrawn w9 d') os))
    go_wp2_with fail
    refine wp_region_quiet_below (by kernel_rfl) (by kernel_rfl) ?_
    repeat (go_big_quiet_step (first | (with_reducible exact k0 _ _) | (with_reducible exact k1 _ _)))
    refine wpQuiet_nil ?_
    intro _ hw'
    obtain ⟨⟨dq2, osq2⟩, hw''⟩ := hw'
    subst hw''
    go_wp2_with fail
    go_ret
    exact ⟨rfl, next B9.out (below_regrown _ dq2 osq2)⟩
end Go.Proofs.Ytmgmlpbecodnfaa
