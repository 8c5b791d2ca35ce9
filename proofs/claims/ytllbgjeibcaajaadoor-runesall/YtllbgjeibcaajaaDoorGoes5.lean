/- The law's own goes returns true for every text and every number: proved of the Go text. -/
import Derived.Test.YtllbgjeibcaajaaDoorPass5
import Derived.Test.YtllbgjeibcaajaaDoorBegun5
import Derived.Laws.EntriesVeiled
namespace Go.Proofs.YtllbgjeibcaajaaDoor
open Go.RowKit Go.Shelf Go.Sort
set_option linter.unusedVariables false
attribute [local go_sem] Oper.semAt_some

theorem full_0 {N : Nat} {stp : Int} (h : 1 ≤ stp ∧ stp < (N : Int)) : Full N stp 0 = stp := if_pos ⟨rfl, h⟩
theorem full_0' {N : Nat} {stp : Int} (h : ¬ (1 ≤ stp ∧ stp < (N : Int))) : Full N stp 0 = N := if_neg (fun e => h e.2)
theorem full_1 {N : Nat} {stp : Int} : Full N stp 1 = N := if_neg (fun e => by have := e.1; omega)
/-- The environment of the first pass, out of the boxes that were laid. -/
theorem env_0 {s : ByteArray} {stp : Int} {z g c lB Bn : Nat} {W3 : World} (bs : Blk W3 z #[.string s] 9) (bt : Blk W3 (z + 1) #[.int .i64 stp] 2) (br : Blk W3 (z + 2) #[.bool false] 4) (hP : Places s g W3)
    (bl : Blk W3 lB #[.slice (some ⟨g, 0, none⟩) (rc s 0 + 1) c] 48) (bg : Blk W3 Bn #[.string s] 9) :
    Env s stp 0 z g c lB Bn W3.heap.size (W3.heap.size + 1) (W3.heap.size + 2) ((W3.alloc (.cells #[.func (.func 23) #[] #[.pointer (some ⟨Bn, 0, none⟩)]] 37)).alloc (.cells #[.int .i64 0] 3)) := by
  have hb : Below W3.heap.size W3 ((W3.alloc (.cells #[.func (.func 23) #[] #[.pointer (some ⟨Bn, 0, none⟩)]] 37)).alloc (.cells #[.int .i64 0] 3)) := step (step (Below.refl _ _) _) _
  have k3 := (Blk.new W3 #[.func (.func 23) #[] #[.pointer (some ⟨Bn, 0, none⟩)]] 37).alloc (.cells #[.int .i64 0] 3)
  have k4 := Blk.new (W3.alloc (.cells #[.func (.func 23) #[] #[.pointer (some ⟨Bn, 0, none⟩)]] 37)) #[.int .i64 0] 3
  simp only [World.size_alloc] at k4
  have h1 := bs.lt
  have h2 := br.lt
  have h3 : g < W3.heap.size := block_lt_of_cell (hP 0 (Nat.zero_le _))
  have h4 := bl.lt
  have h5 := bg.lt
  exact ⟨bs.keep hb, bt.keep hb, ⟨_, br.keep hb⟩, hP.keep hb, bl.keep hb, bg.keep hb, k3, k4, by omega, by omega, by omega, by omega, by omega, by omega⟩
set_option maxHeartbeats 4000000 in
set_option maxRecDepth 100000 in
theorem goes_any (s : ByteArray) (stp : Int) (hs : s.size ≤ 200000) : CallIs 17 #[.string s, .int .i64 stp] (.bool true) := by
  intro w
  have HS := starts_any s hs
  have HA := hide (all_any s)
  have hfn := func_nil
  have hN : Hid (rc s 0 ≤ 200000) := hide (by have := rc_size s; omega)
  have w1' := wf1 (rc s 0) hN.out
  have w3' := wf3 (rc s 0) hN.out
  refine (callsIn_wide (n := 12)).1 (callsIn_of_wp_marks Tryd.func17 rfl trivial (wpIn_wide.2 ?_) rfl)
  simp only [Tryd.ntmps17, List.size_toArray, List.length_cons, List.length_nil, Nat.reduceAdd, Nat.reduceSub, Array.replicate_succ, Array.replicate_zero, List.push_toArray, List.append_toArray, List.nil_append, List.cons_append]
  try simp only [List.append]
  go_wp2_with fail
  refine (HS.out _).mono ?_
  rintro e w1 ⟨g, c, rfl, hg, hc, hP, hb1⟩
  have B1 := hide (next (step (step (step (Below.refl w.heap.size w) (.cells #[.string s] 9)) (.cells #[.int .i64 stp] 2)) (.cells #[.bool false] 4)) hb1)
  have bs := hide ((((Blk.new w #[.string s] 9).alloc (.cells #[.int .i64 stp] 2)).alloc (.cells #[.bool false] 4)).keep hb1)
  have bt := hide (((Blk.new (w.alloc (.cells #[.string s] 9)) #[.int .i64 stp] 2).alloc (.cells #[.bool false] 4)).keep hb1)
  have br := hide ((Blk.new ((w.alloc (.cells #[.string s] 9)).alloc (.cells #[.int .i64 stp] 2)) #[.bool false] 4).keep hb1)
  simp only [World.size_alloc] at bt br
  replace hP := hide hP
  have cs := fun o => (bs.out.alloc o).c1
  clear hb1 hg
  replace hc := hide hc
  go_wp2_with fail
  refine (HA.out _).mono ?_
  rintro e w' ⟨rfl, rfl⟩
  clear cs
  have hb3 : Below w1.heap.size w1 ((w1.alloc (.cells #[.slice (some ⟨g, 0, none⟩) (rc s 0 + 1) c] 48)).alloc (.cells #[.string s] 9)) := step (step (Below.refl _ _) _) _
  replace B1 := hide (step (step B1.out (.cells #[.slice (some ⟨g, 0, none⟩) (rc s 0 + 1) c] 48)) (.cells #[.string s] 9))
  replace bs := hide (bs.out.keep hb3)
  replace bt := hide (bt.out.keep hb3)
  replace br := hide (br.out.keep hb3)
  replace hP := hide (hP.out.keep hb3)
  have bl := hide ((Blk.new w1 #[.slice (some ⟨g, 0, none⟩) (rc s 0 + 1) c] 48).alloc (.cells #[.string s] 9))
  have bg := hide (Blk.new (w1.alloc (.cells #[.slice (some ⟨g, 0, none⟩) (rc s 0 + 1) c] 48)) #[.string s] 9)
  have z3 := hb3.size
  have zl : Hid (w1.heap.size + 2 = ((w1.alloc (.cells #[.slice (some ⟨g, 0, none⟩) (rc s 0 + 1) c] 48)).alloc (.cells #[.string s] 9)).heap.size) := hide (by simp)
  simp only [World.size_alloc] at bg
  try simp only [World.size_alloc]
  obtain ⟨W3, hW3⟩ : ∃ W3, (w1.alloc (.cells #[.slice (some ⟨g, 0, none⟩) (rc s 0 + 1) c] 48)).alloc (.cells #[.string s] 9) = W3 := ⟨_, rfl⟩
  rw [hW3] at B1 bs bt br hP bl bg z3 zl ⊢
  clear hW3 hb3 z3
  go_wp2_with fail
  have E0 := hide (env_0 (c := c) bs.out bt.out br.out hP.out bl.out bg.out)
  have B4 := hide (step (step B1.out (.cells #[.func (.func 23) #[] #[.pointer (some ⟨w1.heap.size + 1, 0, none⟩)]] 37)) (.cells #[.int .i64 0] 3))
  have z4 : ((W3.alloc (.cells #[.func (.func 23) #[] #[.pointer (some ⟨w1.heap.size + 1, 0, none⟩)]] 37)).alloc (.cells #[.int .i64 0] 3)).heap.size = W3.heap.size + 2 := by simp
  have z1 := B1.out.size
  obtain ⟨W4, hW4⟩ : ∃ W4, (W3.alloc (.cells #[.func (.func 23) #[] #[.pointer (some ⟨w1.heap.size + 1, 0, none⟩)]] 37)).alloc (.cells #[.int .i64 0] 3) = W4 := ⟨_, rfl⟩
  rw [hW4] at E0 B4 z4 ⊢
  clear hW4 bs bt br hP bl bg B1 hc
  refine wp_loop_rounds 3 ?_
  rw [rounds_succ]
  have ep := E0.out.fp.c1
  have ea := fun o => (E0.out.alloc o).fa.c1
  go_wp2_with fail
  clear ep ea
  have E1 := hide (E0.out.alloc (.cells #[.int .i64 0] 3))
  have bk := hide (Blk.new W4 #[.int .i64 0] 3)
  have B5 := hide (step B4.out (.cells #[.int .i64 0] 3))
  rw [z4] at bk
  try rw [z4]
  have z5 : (W4.alloc (.cells #[.int .i64 0] 3)).heap.size = W3.heap.size + 3 := by simp [z4]
  obtain ⟨W0, hW0⟩ : ∃ W0, W4.alloc (.cells #[.int .i64 0] 3) = W0 := ⟨_, rfl⟩
  rw [hW0] at E1 bk B5 z5 ⊢
  clear hW0 E0 B4 z4
  replace z5 := hide z5
  refine pass_range s hs stp 0 (.inl rfl) w.heap.size g c w1.heap.size (w1.heap.size + 1) W3.heap.size (W3.heap.size + 1) (W3.heap.size + 2) (W3.heap.size + 2) W0 _ _ _ _ _ _ _ _ _ _ _ _ _ _ _ _ _ _ _ _ _ _ _ _ _ _ _ _ _ _ _ _ _ _ _ _ _ _ _ _ _ _ _ _ _ _ _ _ _ _ _ _ _ _ _ _ _ _ _ _ _ _ _ _ _ _ _ _ _ _ _ _ _ _ _ _ _ _ _ _ _ _ _ _ _ _ _ _ _ _ _ _ _ _ _ _ _ _ _ _ _ _ _ E1.out (Nat.le_refl _) bk.out ?_
  rintro D1 W hD hK hg bk'
  have E := hide (E1.out.kept hg (Nat.le_refl _))
  have BW := hide (grown_is_below B5.out hg (by omega))
  have zD := (Array.getElem?_eq_some_iff.1 hK).1
  have zW := hg.size
  have zz := z5.out
  replace hK := hide hK
  have cl := E.out.fl.c1
  have cp := E.out.fp.c1
  have ct := E.out.ft.c1
  have cs := E.out.fs.c1
  have la := fun o o' => ((E.out.alloc o).alloc o').fa.c1
  have zq : W3.heap.size + 3 ≤ W.heap.size := by omega
  have zd : W3.heap.size + 3 ≤ D1 := by omega
  clear hg E1 bk B5 z5 zz
  replace zq := hide zq
  replace zd := hide zd
  replace zD := hide zD
  replace zW := hide zW
  replace z1 := hide z1
  replace hD := hide hD
  by_cases h1 : 1 ≤ stp
  · by_cases h2 : stp < (rc s 0 : Int)
    · rw [full_0 ⟨h1, h2⟩] at bk'
      have g1 : stp ≥ 1 := h1
      have g3 : (stp != stp) = false := by simp
      replace h1 := hide h1
      have ck := bk'.c1
      clear bk'
      go_wp2_with fail
      rw [rounds_succ]
      go_wp2_with fail
      clear cl cp ct cs la ck
      have hE2 : Hid (Env s stp 1 w.heap.size g c w1.heap.size (w1.heap.size + 1) W3.heap.size W.heap.size (W.heap.size + 1) ((W.alloc (.cells #[.int .i64 1] 3)).alloc (.cells #[.int .i64 0] 3))) := by
        have E2 := (E.out.alloc (.cells #[.int .i64 1] 3)).alloc (.cells #[.int .i64 0] 3)
        have bp := (Blk.new W #[.int .i64 1] 3).alloc (.cells #[.int .i64 0] 3)
        have e1 := E.out.lz
        have e2 := E.out.lp
        have e3 := zq.out
        have e4 := E.out.ll
        have e5 := E.out.lg
        have e6 := E.out.la
        clear w1' w3'
        exact ⟨E2.fs, E2.ft, E2.fr, E2.pl, E2.fl, E2.fg, E2.fa, bp, by omega, by omega, by omega, by omega, by omega, by omega⟩
      have bk2 := hide (Blk.new (W.alloc (.cells #[.int .i64 1] 3)) #[.int .i64 0] 3)
      simp only [World.size_alloc] at bk2
      have B5 := hide (step (step BW.out (.cells #[.int .i64 1] 3)) (.cells #[.int .i64 0] 3))
      have K5 := hide (((KeepsOthers.alloc W (.cells #[.int .i64 1] 3)).trans (KeepsOthers.alloc _ (.cells #[.int .i64 0] 3))).same D1 _ hK.out rfl)
      have z5 : ((W.alloc (.cells #[.int .i64 1] 3)).alloc (.cells #[.int .i64 0] 3)).heap.size = W.heap.size + 2 := by simp
      obtain ⟨W5, hW5⟩ : ∃ W5, (W.alloc (.cells #[.int .i64 1] 3)).alloc (.cells #[.int .i64 0] 3) = W5 := ⟨_, rfl⟩
      rw [hW5] at hE2 bk2 B5 K5 z5 ⊢
      replace z5 := hide z5
      clear hW5 E BW hK
      refine pass_range s hs stp 1 (.inr rfl) w.heap.size g c w1.heap.size (w1.heap.size + 1) W3.heap.size W.heap.size (W.heap.size + 1) (W.heap.size + 1) W5 _ _ _ _ _ _ _ _ _ _ _ _ _ _ _ _ _ _ _ _ _ _ _ _ _ _ _ _ _ _ _ _ _ _ _ _ _ _ _ _ _ _ _ _ _ _ _ _ _ _ _ _ _ _ _ _ _ _ _ _ _ _ _ _ _ _ _ _ _ _ _ _ _ _ _ _ _ _ _ _ _ _ _ _ _ _ _ _ _ _ _ _ _ _ _ _ _ _ _ _ _ _ _ hE2.out (Nat.le_refl _) bk2.out ?_
      rintro D2 V hD2 hK2 hg2 bk3
      have zz := z5.out
      have z1' := z1.out
      have zq' := zq.out
      have zd' := zd.out
      have zD' := zD.out
      have E3 := hide (hE2.out.kept hg2 (Nat.le_refl _))
      have B6 := hide (grown_is_below B5.out hg2 (by clear w1' w3'; omega))
      have K6 := hide ((hg2.block D1 (by clear w1' w3'; omega) (by clear w1' w3'; simp; omega)).trans K5.out)
      have hD12 : Hid (D1 ≠ D2) := hide (by clear w1' w3'; omega)
      have hD1z : Hid (w.heap.size + 2 < D1) := hide (by have := E3.out.lz; clear w1' w3'; omega)
      have hD2z : Hid (w.heap.size + 2 < D2) := hide (by have := E3.out.lz; clear w1' w3'; omega)
      replace hK2 := hide hK2
      have cl := E3.out.fl.c1
      have cp := E3.out.fp.c1
      have ct := E3.out.ft.c1
      rw [full_1] at bk3
      have ck := bk3.c1
      obtain ⟨v, rX⟩ := E3.out.fr
      have rc' := fun o => (rX.alloc o).c1
      have rf := fun o => (rX.alloc o).fr 0
      replace rX := hide rX
      clear bk3 hg2 hE2 bk2 B5 K5 z5 E3 zz z1' zq' zd' zD' hD2
      go_wp2_with fail
      rw [rounds_succ]
      go_wp2_with fail
      have KO := (KeepsOthers.alloc V (.cells #[.int .i64 2] 3)).trans (KeepsOthers.setCell _ ⟨w.heap.size + 2, 0, none⟩ (.bool true))
      have hA := KO.same D2 _ hK2.out rfl
      have hB := KO.same D1 _ K6.out rfl
      refine ⟨by simp, .inl ⟨_, _, rfl, run_takeDeferred hA, ?_⟩⟩
      have hB2 := (World.putObj_heap_other (w := (V.alloc (.cells #[.int .i64 2] 3)).setCell ⟨w.heap.size + 2, 0, none⟩ (.bool true)) (o := .deferred none) hD12.out).trans hB
      refine ⟨by simp, .inl ⟨_, _, rfl, run_takeDeferred hB2, ?_⟩⟩
      have rV := (rX.out.alloc (.cells #[.int .i64 2] 3)).set (.bool true)
      have d1 := hD1z.out
      have d2 := hD2z.out
      clear w1' w3'
      have hc := ((rV.kept (grownBy_putObj' _ D2 (.deferred none)) (by simp; omega)).kept (grownBy_putObj' _ D1 (.deferred none)) (by simp; omega)).c1
      refine ⟨.bool true, ?_, rfl, (((step B6.out _).setCell (p := ⟨w.heap.size + 2, 0, none⟩) (by simp) _).trans (belowK_b (w := w) (Nat.le_refl _) _ D2 _ _ (by omega) hA rfl rfl)).trans (belowK_b (w := w) (Nat.le_refl _) _ D1 _ _ (by omega) hB2 rfl rfl)⟩
      simp [results, Tryd.f17, go_sem, hc]
    · rw [full_0' (fun h => h2 h.2)] at bk'
      have g1 : stp ≥ 1 := h1
      have g3 : ((rc s 0 : Int) != (rc s 0 : Int)) = false := by simp
      replace h1 := hide h1
      have ck := bk'.c1
      clear bk'
      go_wp2_with fail
      rw [rounds_succ]
      go_wp2_with fail
      clear cl cp ct cs la ck
      have hE2 : Hid (Env s stp 1 w.heap.size g c w1.heap.size (w1.heap.size + 1) W3.heap.size W.heap.size (W.heap.size + 1) ((W.alloc (.cells #[.int .i64 1] 3)).alloc (.cells #[.int .i64 0] 3))) := by
        have E2 := (E.out.alloc (.cells #[.int .i64 1] 3)).alloc (.cells #[.int .i64 0] 3)
        have bp := (Blk.new W #[.int .i64 1] 3).alloc (.cells #[.int .i64 0] 3)
        have e1 := E.out.lz
        have e2 := E.out.lp
        have e3 := zq.out
        have e4 := E.out.ll
        have e5 := E.out.lg
        have e6 := E.out.la
        clear w1' w3'
        exact ⟨E2.fs, E2.ft, E2.fr, E2.pl, E2.fl, E2.fg, E2.fa, bp, by omega, by omega, by omega, by omega, by omega, by omega⟩
      have bk2 := hide (Blk.new (W.alloc (.cells #[.int .i64 1] 3)) #[.int .i64 0] 3)
      simp only [World.size_alloc] at bk2
      have B5 := hide (step (step BW.out (.cells #[.int .i64 1] 3)) (.cells #[.int .i64 0] 3))
      have K5 := hide (((KeepsOthers.alloc W (.cells #[.int .i64 1] 3)).trans (KeepsOthers.alloc _ (.cells #[.int .i64 0] 3))).same D1 _ hK.out rfl)
      have z5 : ((W.alloc (.cells #[.int .i64 1] 3)).alloc (.cells #[.int .i64 0] 3)).heap.size = W.heap.size + 2 := by simp
      obtain ⟨W5, hW5⟩ : ∃ W5, (W.alloc (.cells #[.int .i64 1] 3)).alloc (.cells #[.int .i64 0] 3) = W5 := ⟨_, rfl⟩
      rw [hW5] at hE2 bk2 B5 K5 z5 ⊢
      replace z5 := hide z5
      clear hW5 E BW hK
      refine pass_range s hs stp 1 (.inr rfl) w.heap.size g c w1.heap.size (w1.heap.size + 1) W3.heap.size W.heap.size (W.heap.size + 1) (W.heap.size + 1) W5 _ _ _ _ _ _ _ _ _ _ _ _ _ _ _ _ _ _ _ _ _ _ _ _ _ _ _ _ _ _ _ _ _ _ _ _ _ _ _ _ _ _ _ _ _ _ _ _ _ _ _ _ _ _ _ _ _ _ _ _ _ _ _ _ _ _ _ _ _ _ _ _ _ _ _ _ _ _ _ _ _ _ _ _ _ _ _ _ _ _ _ _ _ _ _ _ _ _ _ _ _ _ _ hE2.out (Nat.le_refl _) bk2.out ?_
      rintro D2 V hD2 hK2 hg2 bk3
      have zz := z5.out
      have z1' := z1.out
      have zq' := zq.out
      have zd' := zd.out
      have zD' := zD.out
      have E3 := hide (hE2.out.kept hg2 (Nat.le_refl _))
      have B6 := hide (grown_is_below B5.out hg2 (by clear w1' w3'; omega))
      have K6 := hide ((hg2.block D1 (by clear w1' w3'; omega) (by clear w1' w3'; simp; omega)).trans K5.out)
      have hD12 : Hid (D1 ≠ D2) := hide (by clear w1' w3'; omega)
      have hD1z : Hid (w.heap.size + 2 < D1) := hide (by have := E3.out.lz; clear w1' w3'; omega)
      have hD2z : Hid (w.heap.size + 2 < D2) := hide (by have := E3.out.lz; clear w1' w3'; omega)
      replace hK2 := hide hK2
      have cl := E3.out.fl.c1
      have cp := E3.out.fp.c1
      have ct := E3.out.ft.c1
      rw [full_1] at bk3
      have ck := bk3.c1
      obtain ⟨v, rX⟩ := E3.out.fr
      have rc' := fun o => (rX.alloc o).c1
      have rf := fun o => (rX.alloc o).fr 0
      replace rX := hide rX
      clear bk3 hg2 hE2 bk2 B5 K5 z5 E3 zz z1' zq' zd' zD' hD2
      go_wp2_with fail
      rw [rounds_succ]
      go_wp2_with fail
      have KO := (KeepsOthers.alloc V (.cells #[.int .i64 2] 3)).trans (KeepsOthers.setCell _ ⟨w.heap.size + 2, 0, none⟩ (.bool true))
      have hA := KO.same D2 _ hK2.out rfl
      have hB := KO.same D1 _ K6.out rfl
      refine ⟨by simp, .inl ⟨_, _, rfl, run_takeDeferred hA, ?_⟩⟩
      have hB2 := (World.putObj_heap_other (w := (V.alloc (.cells #[.int .i64 2] 3)).setCell ⟨w.heap.size + 2, 0, none⟩ (.bool true)) (o := .deferred none) hD12.out).trans hB
      refine ⟨by simp, .inl ⟨_, _, rfl, run_takeDeferred hB2, ?_⟩⟩
      have rV := (rX.out.alloc (.cells #[.int .i64 2] 3)).set (.bool true)
      have d1 := hD1z.out
      have d2 := hD2z.out
      clear w1' w3'
      have hc := ((rV.kept (grownBy_putObj' _ D2 (.deferred none)) (by simp; omega)).kept (grownBy_putObj' _ D1 (.deferred none)) (by simp; omega)).c1
      refine ⟨.bool true, ?_, rfl, (((step B6.out _).setCell (p := ⟨w.heap.size + 2, 0, none⟩) (by simp) _).trans (belowK_b (w := w) (Nat.le_refl _) _ D2 _ _ (by omega) hA rfl rfl)).trans (belowK_b (w := w) (Nat.le_refl _) _ D1 _ _ (by omega) hB2 rfl rfl)⟩
      simp [results, Tryd.f17, go_sem, hc]
  · rw [full_0' (fun h => h1 h.1)] at bk'
    have g1 : ¬ stp ≥ 1 := h1
    have g3 : ((rc s 0 : Int) != (rc s 0 : Int)) = false := by simp
    replace h1 := hide h1
    have ck := bk'.c1
    clear bk'
    go_wp2_with fail
    rw [rounds_succ]
    go_wp2_with fail
    clear cl cp ct cs la ck
    have hE2 : Hid (Env s stp 1 w.heap.size g c w1.heap.size (w1.heap.size + 1) W3.heap.size W.heap.size (W.heap.size + 1) ((W.alloc (.cells #[.int .i64 1] 3)).alloc (.cells #[.int .i64 0] 3))) := by
      have E2 := (E.out.alloc (.cells #[.int .i64 1] 3)).alloc (.cells #[.int .i64 0] 3)
      have bp := (Blk.new W #[.int .i64 1] 3).alloc (.cells #[.int .i64 0] 3)
      have e1 := E.out.lz
      have e2 := E.out.lp
      have e3 := zq.out
      have e4 := E.out.ll
      have e5 := E.out.lg
      have e6 := E.out.la
      clear w1' w3'
      exact ⟨E2.fs, E2.ft, E2.fr, E2.pl, E2.fl, E2.fg, E2.fa, bp, by omega, by omega, by omega, by omega, by omega, by omega⟩
    have bk2 := hide (Blk.new (W.alloc (.cells #[.int .i64 1] 3)) #[.int .i64 0] 3)
    simp only [World.size_alloc] at bk2
    have B5 := hide (step (step BW.out (.cells #[.int .i64 1] 3)) (.cells #[.int .i64 0] 3))
    have K5 := hide (((KeepsOthers.alloc W (.cells #[.int .i64 1] 3)).trans (KeepsOthers.alloc _ (.cells #[.int .i64 0] 3))).same D1 _ hK.out rfl)
    have z5 : ((W.alloc (.cells #[.int .i64 1] 3)).alloc (.cells #[.int .i64 0] 3)).heap.size = W.heap.size + 2 := by simp
    obtain ⟨W5, hW5⟩ : ∃ W5, (W.alloc (.cells #[.int .i64 1] 3)).alloc (.cells #[.int .i64 0] 3) = W5 := ⟨_, rfl⟩
    rw [hW5] at hE2 bk2 B5 K5 z5 ⊢
    replace z5 := hide z5
    clear hW5 E BW hK
    refine pass_range s hs stp 1 (.inr rfl) w.heap.size g c w1.heap.size (w1.heap.size + 1) W3.heap.size W.heap.size (W.heap.size + 1) (W.heap.size + 1) W5 _ _ _ _ _ _ _ _ _ _ _ _ _ _ _ _ _ _ _ _ _ _ _ _ _ _ _ _ _ _ _ _ _ _ _ _ _ _ _ _ _ _ _ _ _ _ _ _ _ _ _ _ _ _ _ _ _ _ _ _ _ _ _ _ _ _ _ _ _ _ _ _ _ _ _ _ _ _ _ _ _ _ _ _ _ _ _ _ _ _ _ _ _ _ _ _ _ _ _ _ _ _ _ hE2.out (Nat.le_refl _) bk2.out ?_
    rintro D2 V hD2 hK2 hg2 bk3
    have zz := z5.out
    have z1' := z1.out
    have zq' := zq.out
    have zd' := zd.out
    have zD' := zD.out
    have E3 := hide (hE2.out.kept hg2 (Nat.le_refl _))
    have B6 := hide (grown_is_below B5.out hg2 (by clear w1' w3'; omega))
    have K6 := hide ((hg2.block D1 (by clear w1' w3'; omega) (by clear w1' w3'; simp; omega)).trans K5.out)
    have hD12 : Hid (D1 ≠ D2) := hide (by clear w1' w3'; omega)
    have hD1z : Hid (w.heap.size + 2 < D1) := hide (by have := E3.out.lz; clear w1' w3'; omega)
    have hD2z : Hid (w.heap.size + 2 < D2) := hide (by have := E3.out.lz; clear w1' w3'; omega)
    replace hK2 := hide hK2
    have cl := E3.out.fl.c1
    have cp := E3.out.fp.c1
    have ct := E3.out.ft.c1
    rw [full_1] at bk3
    have ck := bk3.c1
    obtain ⟨v, rX⟩ := E3.out.fr
    have rc' := fun o => (rX.alloc o).c1
    have rf := fun o => (rX.alloc o).fr 0
    replace rX := hide rX
    clear bk3 hg2 hE2 bk2 B5 K5 z5 E3 zz z1' zq' zd' zD' hD2
    go_wp2_with fail
    rw [rounds_succ]
    go_wp2_with fail
    have KO := (KeepsOthers.alloc V (.cells #[.int .i64 2] 3)).trans (KeepsOthers.setCell _ ⟨w.heap.size + 2, 0, none⟩ (.bool true))
    have hA := KO.same D2 _ hK2.out rfl
    have hB := KO.same D1 _ K6.out rfl
    refine ⟨by simp, .inl ⟨_, _, rfl, run_takeDeferred hA, ?_⟩⟩
    have hB2 := (World.putObj_heap_other (w := (V.alloc (.cells #[.int .i64 2] 3)).setCell ⟨w.heap.size + 2, 0, none⟩ (.bool true)) (o := .deferred none) hD12.out).trans hB
    refine ⟨by simp, .inl ⟨_, _, rfl, run_takeDeferred hB2, ?_⟩⟩
    have rV := (rX.out.alloc (.cells #[.int .i64 2] 3)).set (.bool true)
    have d1 := hD1z.out
    have d2 := hD2z.out
    clear w1' w3'
    have hc := ((rV.kept (grownBy_putObj' _ D2 (.deferred none)) (by simp; omega)).kept (grownBy_putObj' _ D1 (.deferred none)) (by simp; omega)).c1
    refine ⟨.bool true, ?_, rfl, (((step B6.out _).setCell (p := ⟨w.heap.size + 2, 0, none⟩) (by simp) _).trans (belowK_b (w := w) (Nat.le_refl _) _ D2 _ _ (by omega) hA rfl rfl)).trans (belowK_b (w := w) (Nat.le_refl _) _ D1 _ _ (by omega) hB2 rfl rfl)⟩
    simp [results, Tryd.f17, go_sem, hc]
end Go.Proofs.YtllbgjeibcaajaaDoor
