/- lookedUp of a table of things of type int: the places of an area at which something lies, in row order, found place by place. Proved of the Go text. -/
import Derived.Test.YtmfkeobjbcinpaaAll7I
import Derived.Test.YtmfkeobjbcinpaaAIt7
namespace Go.Proofs.Ytmfkeobjbcinpaa
open Go.RowKit Go.Shelf Go.Sort Go.Maps
set_option linter.unusedVariables false
attribute [local go_sem] Oper.semAt_some

/-- Between two rounds. -/
def LkII (w : World) (Bv Bb Bt b : Nat) (L : Tb (Int)) (f : Nat → Sp) (pre : List Nat) (W : World) : Prop :=
  (∃ v, Blk W Bv #[v] 28 ∧ RowS W w.heap.size v ((pre.map f).filter (hasT L))) ∧ TabI W Bt b L ∧ Blk W Bb #[.pointer (some ⟨Bt, 0, none⟩)] 25 ∧ Below w.heap.size w W ∧ pre.length ≤ 65536
theorem tab_own {W W' : World} {row : Option Nat} {B0 : Nat} {T : TypeId} {Bt b : Nat} {L : Tb Value} (h : TabAt W T Bt b L) (hg : W.grownBy W' row) (hb : b < B0) (hr : ∀ r, row = some r → B0 ≤ r ∧ ∃ o : Obj, W.heap[r]? = some o ∧ o.isCells = false) : TabAt W' T Bt b L :=
  ⟨Blk.own Bt T (fun (_ : Unit) => #[.map (some b)]) () W W' row h.1 hg (fun r e => (hr r e).2), h.2.kept hg (fun e => by have := (hr b e.symm).1; omega)⟩
theorem lkII_own {w W0 : World} {Bv Bb Bt b : Nat} {L : Tb (Int)} {f : Nat → Sp} (hb : w.heap.size ≤ W0.heap.size) (hlt : b < w.heap.size) : OwnFrom W0.heap.size (fun pre W => LkII w Bv Bb Bt b L f pre W ∧ W0.heap.size ≤ W.heap.size) := fun pre X Y row ⟨⟨⟨v, h1, h2⟩, h3, h4, h5, h6⟩, h7⟩ hg hr =>
  ⟨⟨⟨v, Blk.own Bv _ (fun (_ : Unit) => #[v]) () X Y row h1 hg (fun r e => (hr r e).2), row_own h2 hg (fun r e => (hr r e).2)⟩, tab_own h3 hg (by omega) hr, Blk.own Bb _ (fun (_ : Unit) => #[.pointer (some ⟨Bt, 0, none⟩)]) () X Y row h4 hg (fun r e => (hr r e).2), h5.grown hg h5.size (fun k e => Nat.le_trans hb (hr k e).1), h6⟩, Nat.le_trans h7 hg.size⟩

set_option maxRecDepth 100000 in
set_option maxHeartbeats 4000000 in
theorem lookI_any {w : World} {Bt b : Nat} {L : Tb (Int)} (h : TabI w Bt b L) (t l bo r : Int) (nr nc : Nat) (ho : 0 ≤ t ∧ t ≤ bo ∧ bo < 65536 ∧ 0 ≤ l ∧ l ≤ r ∧ r < 702) (hr : bo + 1 = t + nr) (hc : r + 1 = l + nc) (hN : nr * nc ≤ 65536) :
    Calls Try.prog 53 #[.pointer (some ⟨Bt, 0, none⟩), areaV t l bo r] w fun e w' => ∃ v, e = .returned v ∧ RowS w' w.heap.size v ((keysT L).filter (hasA t l bo r)) ∧ Below w.heap.size w w' := by
  have HA := hide (all_any t l bo r)
  have HH := hide (fun (W : World) (h' : TabI W Bt b L) (x : Sp) (hx : mayB x.1 x.2 = true) => hasI_any h' (may_wf hx).1 (may_wf hx).2)
  have hsrt := hide (TabI.sorted h)
  have T0 := hide ((((h.alloc (.cells #[.pointer (some ⟨Bt, 0, none⟩)] 25)).alloc (areaO t l bo r)).alloc (.cells #[.slice none 0 0] 28)).alloc (areaO t l bo r))
  have P0 := hide ((((Blk.new w #[.pointer (some ⟨Bt, 0, none⟩)] 25).alloc (areaO t l bo r)).alloc (.cells #[.slice none 0 0] 28)).alloc (areaO t l bo r))
  have V0 := hide ((Blk.new ((w.alloc (.cells #[.pointer (some ⟨Bt, 0, none⟩)] 25)).alloc (areaO t l bo r)) #[.slice none 0 0] 28).alloc (areaO t l bo r))
  have N0 := hide (Blk.new (((w.alloc (.cells #[.pointer (some ⟨Bt, 0, none⟩)] 25)).alloc (areaO t l bo r)).alloc (.cells #[.slice none 0 0] 28)) #[.int .i64 t, .int .i64 l, .int .i64 bo, .int .i64 r] 37)
  have B0 := hide (step (step (step (step (Below.refl w.heap.size w) (.cells #[.pointer (some ⟨Bt, 0, none⟩)] 25)) (areaO t l bo r)) (.cells #[.slice none 0 0] 28)) (areaO t l bo r))
  simp only [World.size_alloc] at V0 N0
  have hlt := hide h.lt
  clear h
  refine (callsIn_wide (n := 12)).1 (callsIn_of_wp_marks Try.func53 rfl trivial (wpIn_wide.2 ?_) rfl)
  simp only [Try.ntmps53, List.size_toArray, List.length_cons, List.length_nil, Nat.reduceAdd, Nat.reduceSub, Array.replicate_succ, Array.replicate_zero, List.push_toArray, List.append_toArray, List.nil_append, List.cons_append]
  go_wp2_with (go_at_call 73; refine (HA.out _).mono ?_; rintro e w' ⟨rfl, rfl⟩)
  obtain ⟨W0, hW0⟩ : ∃ W0, (((w.alloc (.cells #[.pointer (some ⟨Bt, 0, none⟩)] 25)).alloc (areaO t l bo r)).alloc (.cells #[.slice none 0 0] 28)).alloc (areaO t l bo r) = W0 := ⟨_, rfl⟩
  have z0 : Hid (W0.heap.size = w.heap.size + 4) := hide (by rw [← hW0]; simp)
  rw [hW0] at T0 P0 V0 N0 B0 ⊢
  clear hW0
  have hNp : 0 < nr * nc := Nat.mul_pos (by omega) (by omega)
  refine range_one (plm t l nc (nr * nc)) (n := 12) (by decide) (enters_of Try.func85 (by kernel_rfl) rfl) 6 (allM_gives 11 (by decide) (w.heap.size + 1 + 1 + 1) t l bo r nr nc ho hr hc hNp W0 N0.out.c4) (Below.refl _ _) KS_t (KS_b (fun k hk => by simp at hk; have := z0.out; omega)) (KS.alloc _) rfl
    (fun pre W => (LkII w (w.heap.size + 1 + 1) w.heap.size Bt b L (plm t l nc (nr * nc)) pre W ∧ W0.heap.size ≤ W.heap.size) ∧ Blk W (w.heap.size + 1 + 1 + 1) #[.int .i64 t, .int .i64 l, .int .i64 bo, .int .i64 r] 37)
    (fun c pre W => False)
    (OwnFrom.and (lkII_own (by have := z0.out; omega) hlt.out.2) (Own.from (Blk.own _ _ _) _))
    (fun c => ownFrom_pure _ _)
    ⟨⟨⟨⟨_, V0.out, RowS.nil _ _⟩, T0.out, P0.out, B0.out, Nat.zero_le _⟩, Nat.le_refl _⟩, N0.out⟩ (fun pre W h => h.1.2) ?assign ?body ?done ?stop
  case assign =>
    intro lo x W K hK
    gi_wp2
    exact hK
  case body =>
    rintro lo pre x W Bx hlo hr' ⟨⟨⟨⟨v, bv, hrow⟩, hT, bP, hb, hpl⟩, hsz⟩, bN⟩ hBx bX hlt'
    replace bN := hide bN
    have hm : mayB (plm t l nc (nr * nc) x).1 (plm t l nc (nr * nc) x).2 = true := plc_in ho hr hc (Nat.mod_lt _ hNp)
    have hmap : (pre ++ [x]).map (plm t l nc (nr * nc)) = pre.map (plm t l nc (nr * nc)) ++ [plm t l nc (nr * nc) x] := by rw [List.map_append]; rfl
    have HC := hide (HH.out W hT _ hm)
    rw [has_valI] at HC
    obtain ⟨⟨y1, y2⟩, hy⟩ : ∃ y, plm t l nc (nr * nc) x = y := ⟨_, rfl⟩
    rw [hy] at hmap HC bX
    obtain ⟨s0, s1⟩ := bX.c2
    have p0 := bP.c1
    have zz := z0.out
    have hl1 : Hid ((pre.map (plm t l nc (nr * nc))).length < 1000000) := hide (by rw [List.length_map]; omega)
    have hl2 : Hid ((pre ++ [x]).length ≤ 65536) := hide (by rw [List.length_append]; simp; omega)
    replace hmap := hide hmap
    replace hrow := hide hrow
    replace bv := hide bv
    replace hT := hide hT
    replace bP := hide bP
    replace hb := hide hb
    replace bX := hide bX
    rw [hy]
    simp only at s0 s1
    clear hr' hy hm hpl hlt'
    cases hq : hasT L (y1, y2)
    · rw [hq] at HC
      have hf : Hid ((pre.map (plm t l nc (nr * nc)) ++ [(y1, y2)]).filter (hasT L) = (pre.map (plm t l nc (nr * nc))).filter (hasT L)) := hide (by rw [List.filter_append, List.filter_cons_of_neg (by simp [hq])]; simp)
      clear hq
      gi_wp2_with fail
      refine ⟨trivial, ?_⟩
      refine (CallsIn.inRound lo (callsIn_wide.2 HC.out)).mono ?_
      rintro e w3 ⟨rfl, hb3⟩
      replace hb3 := hide hb3
      gi_wp2
      refine ⟨KeepsFrom.keep hb3.out, KS.of_below hb3.out, ⟨⟨⟨⟨_, bv.out.keep hb3.out, ?_⟩, hT.out.keep hb3.out, bP.out.keep hb3.out, next hb.out hb3.out, hl2.out⟩, Nat.le_trans hsz hb3.out.size⟩, bN.out.keep hb3.out⟩⟩
      rw [hmap.out, hf.out]
      exact row_keep hrow.out hb3.out
    · rw [hq] at HC
      have hf : Hid ((pre.map (plm t l nc (nr * nc)) ++ [(y1, y2)]).filter (hasT L) = (pre.map (plm t l nc (nr * nc))).filter (hasT L) ++ [(y1, y2)]) := hide (by rw [List.filter_append, List.filter_cons_of_pos hq]; simp)
      clear hq
      gi_wp2_with fail
      refine ⟨trivial, ?_⟩
      refine (CallsIn.inRound lo (callsIn_wide.2 HC.out)).mono ?_
      rintro e w3 ⟨rfl, hb3⟩
      have hr3 := row_keep hrow.out hb3
      have bv3 := bv.out.keep hb3
      have bX3 := bX.out.keep hb3
      have T3 := hide (hT.out.keep hb3)
      have N3 := hide (bN.out.keep hb3)
      have P3 := hide (bP.out.keep hb3)
      have B3 := hide (next hb.out hb3)
      have KF3 := hide (KeepsFrom.keep (B := W0.heap.size) hb3)
      have KS3 := hide (KS.of_below (bs := [w.heap.size + 1 + 1 + 1]) hb3)
      have hz3 := hb3.size
      obtain ⟨x0, x1⟩ := bX3.c2
      obtain ⟨av, cv, rfl⟩ := row_slice hr3
      have c3 := bv3.c1
      have f3 := bv3.fr 0
      have hne : Hid ((Value.slice av ((pre.map (plm t l nc (nr * nc))).filter (hasT L)).length cv).ownBlock ≠ some (w.heap.size + 1 + 1)) := hide (row_ne hr3 bv3 (by decide))
      have hfl : Hid (((pre.map (plm t l nc (nr * nc))).filter (hasT L)).length < 1000000) := hide (Nat.lt_of_le_of_lt (List.length_filter_le _ _) hl1.out)
      have hns := B3.out.size
      generalize hK : (pre.map (plm t l nc (nr * nc))).filter (hasT L) = Kf at *
      replace hr3 := hide hr3
      replace bv3 := hide bv3
      clear hb3 bX3 s0 s1 p0 hrow bv hT bP hb bX hK
      gi_wp2_with (first
        | (gi_at_builtin; refine wpListIn_appS rfl _ _ rfl rfl rfl (hr3.out.alloc (spotO y1 y2)) (C2.new w3 _ _ _) hfl.out (Nat.le_trans hns (by simp)) ?_; intro v' w4 hrow4 hg4 hloc; obtain ⟨a4, k4, rfl⟩ : ∃ a c, v' = .slice a (Kf.length + 1) c := by { have h := row_slice hrow4; rwa [List.length_append] at h }; have bv4 := (bv3.out.alloc (spotO y1 y2)).kept hg4 (fun e => hne.out e.symm); have c4 := bv4.c1; have f4 := bv4.fr 0; replace hrow4 := hide hrow4; replace hg4 := hide hg4)
        | gi_in)
      have hV := hr3.out.alloc (spotO y1 y2)
      have hne4 : (Value.slice a4 (Kf.length + 1) k4).ownBlock ≠ some (w.heap.size + 1 + 1) := row_ne hrow4.out bv4 (by decide)
      have lt := hlt.out
      have nl : ∀ j, j < w.heap.size → some j ≠ (Value.slice av Kf.length cv).ownBlock := fun j hj e => by have := (hV.lt j e.symm).1; omega
      have T4 := ((T3.out.alloc (spotO y1 y2)).kept hg4.out (nl _ lt.1) (nl _ lt.2)).kept (grownBy_setCell' w4 (w.heap.size + 1 + 1) (.slice a4 (Kf.length + 1) k4)) (by simp; omega) (by simp; omega)
      have P4 := ((P3.out.alloc (spotO y1 y2)).kept hg4.out (fun e => row_ne hV (P3.out.alloc (spotO y1 y2)) (by decide) e.symm)).other (B' := w.heap.size + 1 + 1) (by omega) (.slice a4 (Kf.length + 1) k4)
      have B4 := (row_grown (step B3.out (spotO y1 y2)) hV hg4.out).setCell (p := ⟨w.heap.size + 1 + 1, 0, none⟩) (show w.heap.size ≤ w.heap.size + 1 + 1 by omega) (.slice a4 (Kf.length + 1) k4)
      have N4 := (N3.out.alloc (spotO y1 y2)).kept hg4.out (fun e => row_ne hV (N3.out.alloc (spotO y1 y2)) (by decide) e.symm)
      have N5 := N4.other (B' := w.heap.size + 1 + 1) (by omega) (.slice a4 (Kf.length + 1) k4)
      have KS4 : KS [w.heap.size + 1 + 1 + 1] w3 (w4.setCell ⟨w.heap.size + 1 + 1, 0, none⟩ (.slice a4 (Kf.length + 1) k4)) := by
        refine ⟨Nat.le_trans (by simp) (Nat.le_trans hg4.out.size (grownBy_setCell' w4 (w.heap.size + 1 + 1) (.slice a4 (Kf.length + 1) k4)).size), fun k hk _ => ?_⟩
        simp only [List.mem_singleton] at hk
        subst hk
        exact (show _ = _ from N5).trans (show _ = _ from N3.out).symm
      refine ⟨KF3.out.trans ((((KeepsOthers.alloc w3 _).trans (row_others hV hg4.out)).trans (KeepsOthers.setCell _ _ _)).from _), KS_t KS3.out KS4, ⟨⟨⟨⟨_, bv4.set _, ?_⟩, T4, P4, B4, hl2.out⟩, ?_⟩, N5⟩⟩
      · rw [hmap.out, hf.out]
        exact hrow4.out.kept (grownBy_setCell' w4 _ _) (.inr hne4)
      · exact Nat.le_trans hsz (Nat.le_trans hz3 (Nat.le_trans (by simp) (Nat.le_trans hg4.out.size (grownBy_setCell' w4 (w.heap.size + 1 + 1) (.slice a4 (Kf.length + 1) k4)).size)))
  case done =>
    rintro D ys W hD rfl ⟨⟨⟨⟨v, bv, hrow⟩, hT, bP, hb, hpl⟩, hsz⟩, _⟩ hK
    have c0 := bv.c1
    have zz := z0.out
    have hmap : (List.range (nr * nc)).map (plm t l nc (nr * nc)) = upto t l nc (nr * nc) := by
      unfold upto
      refine List.map_congr_left (fun k hk => ?_)
      unfold plm
      rw [Nat.mod_eq_of_lt (List.mem_range.1 hk)]
    rw [hmap, upto_has hsrt.out ho hr hc] at hrow
    clear bP hT hmap
    go_wp2_with fail
    refine ⟨by simp, .inl ⟨_, _, rfl, run_takeDeferred hK, ?_⟩⟩
    exact ⟨_, results_tmp rfl _ _ _, v, rfl, row_own hrow (grownBy_putObj' _ _ _) (fun r e => by cases e; exact ⟨_, hK, rfl⟩), hb.grown (grownBy_putObj' _ _ _) hb.size (fun k e => by cases e; omega)⟩
  case stop =>
    rintro D c pre W hD hk h hK
    exact h.elim
end Go.Proofs.Ytmfkeobjbcinpaa
