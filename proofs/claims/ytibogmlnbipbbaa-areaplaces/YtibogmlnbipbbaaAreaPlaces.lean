/- The law AreaPlaces returns true for every area and every two numbers, and changes nothing that was there. -/
import Derived.Test.YtibogmlnbipbbaaPass3
import Derived.Test.YtibogmlnbipbbaaAgree3
import Derived.Laws.EntriesVeiled
namespace Go.Proofs.Ytibogmlnbipbbaa
open Go.RowKit Go.Shelf Go.Sort
set_option linter.unusedVariables false
attribute [local go_sem] Oper.semAt_some

theorem hasN (t l b r : Int) : ∃ nc N : Nat, HasN t l b r nc N ∧ CallIs 11 #[areaV t l b r] (.int .i64 N) := by
  by_cases ho : 0 ≤ t ∧ t ≤ b ∧ b < 65536 ∧ 0 ≤ l ∧ l ≤ r ∧ r < 702
  · refine ⟨(r - l + 1).toNat, (b - t + 1).toNat * (r - l + 1).toNat, .inl ⟨ho, (b - t + 1).toNat, by omega, by omega, rfl⟩, hide fun w => ?_⟩
    have := places_yes t l b r w ho (mayRIs_ok ho)
    rwa [show (b - t + 1) * (r - l + 1) = (((b - t + 1).toNat * (r - l + 1).toNat : Nat) : Int) by rw [Int.natCast_mul, Int.toNat_of_nonneg (by omega), Int.toNat_of_nonneg (by omega)]] at this
  · exact ⟨0, 0, .inr ⟨ho, rfl⟩, hide fun w => places_bad t l b r w (mayRIs_no ho)⟩
theorem full_0 {N : Nat} {stp : Int} (h : 1 ≤ stp) : Full N stp 0 = min (min (N : Int) 9000) stp := if_pos ⟨rfl, h⟩
theorem full_0' {N : Nat} {stp : Int} (h : ¬ 1 ≤ stp) : Full N stp 0 = min (N : Int) 9000 := if_neg (fun e => h e.2)
theorem full_1 {N : Nat} {stp : Int} : Full N stp 1 = min (N : Int) 9000 := if_neg (fun e => by have := e.1; omega)
set_option maxHeartbeats 4000000 in
set_option maxRecDepth 100000 in
theorem areaPlaces_walk (t l b r stp wth : Int) (w : World) :
    Calls Try.prog 4 #[areaV t l b r, .int .i64 stp, .int .i64 wth] w fun e w' => e = .returned (.bool true) ∧ Below w.heap.size w w' := by
  obtain ⟨nc, N, hN, HP⟩ := hasN t l b r
  replace hN := hide hN
  have HG := begunIs
  have HA := hide (all_any t l b r)
  have hfn := func_nil
  refine (callsIn_wide (n := 12)).1 (callsIn_of_wp_marks Try.func4 rfl trivial (wpIn_wide.2 ?_) rfl)
  simp only [Try.ntmps4, List.size_toArray, List.length_cons, List.length_nil, Nat.reduceAdd, Nat.reduceSub, Array.replicate_succ, Array.replicate_zero, List.push_toArray, List.append_toArray, List.nil_append, List.cons_append]
  try simp only [List.append]
  go_wp2_with fail
  refine (HG.out _).mono ?_
  rintro e w1 ⟨rfl, hb1⟩
  have B1 := hide (next (step (step (step (step (Below.refl w.heap.size w) (areaO t l b r)) (.cells #[.int .i64 stp] 3)) (.cells #[.int .i64 wth] 3)) (.cells #[.bool false] 4)) hb1)
  have ba := hide (((((Blk.new w #[.int .i64 t, .int .i64 l, .int .i64 b, .int .i64 r] 26).alloc (.cells #[.int .i64 stp] 3)).alloc (.cells #[.int .i64 wth] 3)).alloc (.cells #[.bool false] 4)).keep hb1)
  have bs := hide ((((Blk.new (w.alloc (areaO t l b r)) #[.int .i64 stp] 3).alloc (.cells #[.int .i64 wth] 3)).alloc (.cells #[.bool false] 4)).keep hb1)
  have bw := hide (((Blk.new ((w.alloc (areaO t l b r)).alloc (.cells #[.int .i64 stp] 3)) #[.int .i64 wth] 3).alloc (.cells #[.bool false] 4)).keep hb1)
  have br := hide ((Blk.new (((w.alloc (areaO t l b r)).alloc (.cells #[.int .i64 stp] 3)).alloc (.cells #[.int .i64 wth] 3)) #[.bool false] 4).keep hb1)
  simp only [World.size_alloc] at bs bw br
  obtain ⟨a0, a1, a2, a3⟩ := ba.out.c4
  have a0' := fun o o' => ((ba.out.alloc o).alloc o').c4.1
  have a1' := fun o o' => ((ba.out.alloc o).alloc o').c4.2.1
  have a2' := fun o o' => ((ba.out.alloc o).alloc o').c4.2.2.1
  have a3' := fun o o' => ((ba.out.alloc o).alloc o').c4.2.2.2
  have z1 := hb1.size
  simp only [World.size_alloc] at z1
  clear hb1
  go_wp2_with (go_at_call 10; refine (HA.out _).mono ?_; rintro e w' ⟨rfl, rfl⟩)
  refine (HP.out _).mono ?_
  rintro e w2 ⟨rfl, hb2⟩
  clear a0 a1 a2 a3 a0' a1' a2' a3'
  have B2 := hide (next (step (step B1.out (areaO t l b r)) (.cells #[.func (.func 26) #[] #[.pointer (some ⟨w1.heap.size, 0, none⟩)]] 33)) hb2)
  replace ba := hide (((ba.out.alloc _).alloc _).keep hb2)
  replace bs := hide (((bs.out.alloc _).alloc _).keep hb2)
  replace bw := hide (((bw.out.alloc _).alloc _).keep hb2)
  replace br := hide (((br.out.alloc _).alloc _).keep hb2)
  have bg := hide (((Blk.new w1 #[.int .i64 t, .int .i64 l, .int .i64 b, .int .i64 r] 26).alloc (.cells #[.func (.func 26) #[] #[.pointer (some ⟨w1.heap.size, 0, none⟩)]] 33)).keep hb2)
  have bl := hide ((Blk.new (w1.alloc (areaO t l b r)) #[.func (.func 26) #[] #[.pointer (some ⟨w1.heap.size, 0, none⟩)]] 33).keep hb2)
  simp only [World.size_alloc] at bl
  have z2 := hb2.size
  simp only [World.size_alloc] at z2
  clear hb2
  go_wp2_with fail
  refine wp_loop_rounds 3 ?_
  rw [rounds_succ]
  have l0 := fun o o' o'' => (((bl.out.alloc o).alloc o').alloc o'').c1
  go_wp2_with fail
  clear l0
  have hE : Hid (Env t l b r stp wth N 0 w.heap.size w1.heap.size (w1.heap.size + 1) w2.heap.size (w2.heap.size + 1) (w2.heap.size + 1 + 1) (((w2.alloc (.cells #[.int .i64 N] 3)).alloc (.cells #[.int .i64 0] 3)).alloc (.cells #[.int .i64 0] 3))) := by
    have bp := (Blk.new (w2.alloc (.cells #[.int .i64 N] 3)) #[.int .i64 0] 3).alloc (.cells #[.int .i64 0] 3)
    simp only [World.size_alloc] at bp
    exact ⟨((ba.out.alloc _).alloc _).alloc _, ((bs.out.alloc _).alloc _).alloc _, ((bw.out.alloc _).alloc _).alloc _, ⟨_, ((br.out.alloc _).alloc _).alloc _⟩, ((bg.out.alloc _).alloc _).alloc _, ((bl.out.alloc _).alloc _).alloc _, ((Blk.new w2 #[.int .i64 N] 3).alloc _).alloc _, bp, by omega, by omega, by omega, by omega, by omega⟩
  have bi := hide (Blk.new ((w2.alloc (.cells #[.int .i64 N] 3)).alloc (.cells #[.int .i64 0] 3)) #[.int .i64 0] 3)
  simp only [World.size_alloc] at bi
  have B0 := hide (step (step (step B2.out (.cells #[.int .i64 N] 3)) (.cells #[.int .i64 0] 3)) (.cells #[.int .i64 0] 3))
  have z0 : (((w2.alloc (.cells #[.int .i64 N] 3)).alloc (.cells #[.int .i64 0] 3)).alloc (.cells #[.int .i64 0] 3)).heap.size = w2.heap.size + 3 := by simp
  obtain ⟨W0, hW0⟩ : ∃ W0, ((w2.alloc (.cells #[.int .i64 N] 3)).alloc (.cells #[.int .i64 0] 3)).alloc (.cells #[.int .i64 0] 3) = W0 := ⟨_, rfl⟩
  rw [hW0] at hE bi B0 z0 ⊢
  replace z0 := hide z0
  clear hW0 ba bs bw br bg bl B1 B2
  refine pass_range t l b r stp wth nc N hN.out 0 w.heap.size w1.heap.size (w1.heap.size + 1) w2.heap.size (w2.heap.size + 1) (w2.heap.size + 1 + 1) (w2.heap.size + 1 + 1) W0 _ _ _ _ _ _ _ _ _ _ _ _ _ _ _ _ _ _ _ _ _ _ _ _ _ _ _ _ _ _ _ _ _ _ _ _ _ _ _ _ _ _ _ _ _ _ _ _ _ _ _ _ _ _ _ _ _ _ _ _ _ _ _ _ _ _ _ _ _ _ _ _ _ _ _ _ _ _ _ _ hE.out (Nat.le_refl _) bi.out ?_
  rintro D1 W hD hK hg bi'
  have E := hide (hE.out.kept hg (Nat.le_refl _))
  have BW := hide (grown_is_below B0.out hg (by omega))
  have zD := (Array.getElem?_eq_some_iff.1 hK).1
  have zW := hg.size
  have zz := z0.out
  replace hK := hide hK
  have cn := E.out.fn.c1
  have cp := E.out.fp.c1
  have cs := E.out.fs.c1
  have la := fun o o' => ((E.out.alloc o).alloc o').fl.c1
  have hmn := ite_min
  have zq : w2.heap.size + 3 ≤ W.heap.size := by omega
  have zd : w2.heap.size + 3 ≤ D1 := by omega
  clear hg hE bi B0 z0 zz
  by_cases hst : 1 ≤ stp
  · rw [full_0 hst] at bi'
    have ci := bi'.c1
    clear bi'
    go_wp2_with fail
    rw [rounds_succ]
    go_wp2_with fail
    clear cn cp cs la ci
    have hE2 : Hid (Env t l b r stp wth N 1 w.heap.size w1.heap.size (w1.heap.size + 1) w2.heap.size W.heap.size (W.heap.size + 1) ((W.alloc (.cells #[.int .i64 1] 3)).alloc (.cells #[.int .i64 0] 3))) := by
      have E2 := (E.out.alloc (.cells #[.int .i64 1] 3)).alloc (.cells #[.int .i64 0] 3)
      have bp := (Blk.new W #[.int .i64 1] 3).alloc (.cells #[.int .i64 0] 3)
      exact ⟨E2.fa, E2.fs, E2.fw, E2.fr, E2.fg, E2.fl, E2.fn, bp, by omega, by omega, by omega, by omega, by omega⟩
    have bi2 := hide (Blk.new (W.alloc (.cells #[.int .i64 1] 3)) #[.int .i64 0] 3)
    simp only [World.size_alloc] at bi2
    have B5 := hide (step (step BW.out (.cells #[.int .i64 1] 3)) (.cells #[.int .i64 0] 3))
    have K5 := hide (((KeepsOthers.alloc W (.cells #[.int .i64 1] 3)).trans (KeepsOthers.alloc _ (.cells #[.int .i64 0] 3))).same D1 _ hK.out rfl)
    have z5 : ((W.alloc (.cells #[.int .i64 1] 3)).alloc (.cells #[.int .i64 0] 3)).heap.size = W.heap.size + 2 := by simp
    obtain ⟨W5, hW5⟩ : ∃ W5, (W.alloc (.cells #[.int .i64 1] 3)).alloc (.cells #[.int .i64 0] 3) = W5 := ⟨_, rfl⟩
    rw [hW5] at hE2 bi2 B5 K5 z5 ⊢
    replace z5 := hide z5
    clear hW5 E BW hK
    refine pass_range t l b r stp wth nc N hN.out 1 w.heap.size w1.heap.size (w1.heap.size + 1) w2.heap.size W.heap.size (W.heap.size + 1) (W.heap.size + 1) W5 _ _ _ _ _ _ _ _ _ _ _ _ _ _ _ _ _ _ _ _ _ _ _ _ _ _ _ _ _ _ _ _ _ _ _ _ _ _ _ _ _ _ _ _ _ _ _ _ _ _ _ _ _ _ _ _ _ _ _ _ _ _ _ _ _ _ _ _ _ _ _ _ _ _ _ _ _ _ _ _ hE2.out (Nat.le_refl _) bi2.out ?_
    rintro D2 V hD2 hK2 hg2 bi3
    have zz := z5.out
    have E3 := hide (hE2.out.kept hg2 (Nat.le_refl _))
    have B6 := hide (grown_is_below B5.out hg2 (by omega))
    have K6 := hide ((hg2.block D1 (by omega) (by simp; omega)).trans K5.out)
    replace hK2 := hide hK2
    have cn := E3.out.fn.c1
    have cp := E3.out.fp.c1
    have cs := E3.out.fs.c1
    rw [full_1] at bi3
    have ci := bi3.c1
    obtain ⟨v, rX⟩ := E3.out.fr
    have rc := fun o => (rX.alloc o).c1
    have rf := fun o => (rX.alloc o).fr 0
    replace rX := hide rX
    clear bi3 hg2 hE2 bi2 B5 K5 z5 E3
    go_wp2_with fail
    rw [rounds_succ]
    go_wp2_with fail
    have KO := (KeepsOthers.alloc V (.cells #[.int .i64 2] 3)).trans (KeepsOthers.setCell _ ⟨w.heap.size + 3, 0, none⟩ (.bool true))
    have hA := KO.same D2 _ hK2.out rfl
    have hB := KO.same D1 _ K6.out rfl
    refine ⟨by simp, .inl ⟨_, _, rfl, run_takeDeferred hA, ?_⟩⟩
    have hB2 := (World.putObj_heap_other (w := (V.alloc (.cells #[.int .i64 2] 3)).setCell ⟨w.heap.size + 3, 0, none⟩ (.bool true)) (o := .deferred none) (show D1 ≠ D2 by omega)).trans hB
    refine ⟨by simp, .inl ⟨_, _, rfl, run_takeDeferred hB2, ?_⟩⟩
    have rV := (rX.out.alloc (.cells #[.int .i64 2] 3)).set (.bool true)
    have hc := ((rV.kept (grownBy_putObj' _ D2 (.deferred none)) (by simp; omega)).kept (grownBy_putObj' _ D1 (.deferred none)) (by simp; omega)).c1
    refine ⟨.bool true, ?_, rfl, (((step B6.out _).setCell (p := ⟨w.heap.size + 3, 0, none⟩) (by simp) _).trans (belowK_b (w := w) (Nat.le_refl _) _ D2 _ _ (by omega) hA rfl rfl)).trans (belowK_b (w := w) (Nat.le_refl _) _ D1 _ _ (by omega) hB2 rfl rfl)⟩
    simp [results, Try.f4, go_sem, hc]
  · rw [full_0' hst] at bi'
    have ci := bi'.c1
    clear bi'
    go_wp2_with fail
    rw [rounds_succ]
    go_wp2_with fail
    clear cn cp cs la ci
    have hE2 : Hid (Env t l b r stp wth N 1 w.heap.size w1.heap.size (w1.heap.size + 1) w2.heap.size W.heap.size (W.heap.size + 1) ((W.alloc (.cells #[.int .i64 1] 3)).alloc (.cells #[.int .i64 0] 3))) := by
      have E2 := (E.out.alloc (.cells #[.int .i64 1] 3)).alloc (.cells #[.int .i64 0] 3)
      have bp := (Blk.new W #[.int .i64 1] 3).alloc (.cells #[.int .i64 0] 3)
      exact ⟨E2.fa, E2.fs, E2.fw, E2.fr, E2.fg, E2.fl, E2.fn, bp, by omega, by omega, by omega, by omega, by omega⟩
    have bi2 := hide (Blk.new (W.alloc (.cells #[.int .i64 1] 3)) #[.int .i64 0] 3)
    simp only [World.size_alloc] at bi2
    have B5 := hide (step (step BW.out (.cells #[.int .i64 1] 3)) (.cells #[.int .i64 0] 3))
    have K5 := hide (((KeepsOthers.alloc W (.cells #[.int .i64 1] 3)).trans (KeepsOthers.alloc _ (.cells #[.int .i64 0] 3))).same D1 _ hK.out rfl)
    have z5 : ((W.alloc (.cells #[.int .i64 1] 3)).alloc (.cells #[.int .i64 0] 3)).heap.size = W.heap.size + 2 := by simp
    obtain ⟨W5, hW5⟩ : ∃ W5, (W.alloc (.cells #[.int .i64 1] 3)).alloc (.cells #[.int .i64 0] 3) = W5 := ⟨_, rfl⟩
    rw [hW5] at hE2 bi2 B5 K5 z5 ⊢
    replace z5 := hide z5
    clear hW5 E BW hK
    refine pass_range t l b r stp wth nc N hN.out 1 w.heap.size w1.heap.size (w1.heap.size + 1) w2.heap.size W.heap.size (W.heap.size + 1) (W.heap.size + 1) W5 _ _ _ _ _ _ _ _ _ _ _ _ _ _ _ _ _ _ _ _ _ _ _ _ _ _ _ _ _ _ _ _ _ _ _ _ _ _ _ _ _ _ _ _ _ _ _ _ _ _ _ _ _ _ _ _ _ _ _ _ _ _ _ _ _ _ _ _ _ _ _ _ _ _ _ _ _ _ _ _ hE2.out (Nat.le_refl _) bi2.out ?_
    rintro D2 V hD2 hK2 hg2 bi3
    have zz := z5.out
    have E3 := hide (hE2.out.kept hg2 (Nat.le_refl _))
    have B6 := hide (grown_is_below B5.out hg2 (by omega))
    have K6 := hide ((hg2.block D1 (by omega) (by simp; omega)).trans K5.out)
    replace hK2 := hide hK2
    have cn := E3.out.fn.c1
    have cp := E3.out.fp.c1
    have cs := E3.out.fs.c1
    rw [full_1] at bi3
    have ci := bi3.c1
    obtain ⟨v, rX⟩ := E3.out.fr
    have rc := fun o => (rX.alloc o).c1
    have rf := fun o => (rX.alloc o).fr 0
    replace rX := hide rX
    clear bi3 hg2 hE2 bi2 B5 K5 z5 E3
    go_wp2_with fail
    rw [rounds_succ]
    go_wp2_with fail
    have KO := (KeepsOthers.alloc V (.cells #[.int .i64 2] 3)).trans (KeepsOthers.setCell _ ⟨w.heap.size + 3, 0, none⟩ (.bool true))
    have hA := KO.same D2 _ hK2.out rfl
    have hB := KO.same D1 _ K6.out rfl
    refine ⟨by simp, .inl ⟨_, _, rfl, run_takeDeferred hA, ?_⟩⟩
    have hB2 := (World.putObj_heap_other (w := (V.alloc (.cells #[.int .i64 2] 3)).setCell ⟨w.heap.size + 3, 0, none⟩ (.bool true)) (o := .deferred none) (show D1 ≠ D2 by omega)).trans hB
    refine ⟨by simp, .inl ⟨_, _, rfl, run_takeDeferred hB2, ?_⟩⟩
    have rV := (rX.out.alloc (.cells #[.int .i64 2] 3)).set (.bool true)
    have hc := ((rV.kept (grownBy_putObj' _ D2 (.deferred none)) (by simp; omega)).kept (grownBy_putObj' _ D1 (.deferred none)) (by simp; omega)).c1
    refine ⟨.bool true, ?_, rfl, (((step B6.out _).setCell (p := ⟨w.heap.size + 3, 0, none⟩) (by simp) _).trans (belowK_b (w := w) (Nat.le_refl _) _ D2 _ _ (by omega) hA rfl rfl)).trans (belowK_b (w := w) (Nat.le_refl _) _ D1 _ _ (by omega) hB2 rfl rfl)⟩
    simp [results, Try.f4, go_sem, hc]
end Go.Proofs.Ytibogmlnbipbbaa
