/- What the cutter's end and take do. Proved of the Go text. -/
import Derived.Test.YtdlomdbmmhjppaaGreatDoorCu8
import Derived.Deep.RegionHeld
namespace Go.Proofs.YtdlomdbmmhjppaaGreatDoor
open Go.RowKit Go.Sort
set_option linter.unusedVariables false

theorem step_appW {ops : Array Oper} {o : Oper} {a : Act} {w : World} {K : Act → World → Prop} {Q : Exit → Act → World → Prop} {E : Prop} (hgd : o.guard = none) (sl x : Operand)
    (ho : o.op = .call { callee := .builtin .append, args := #[sl, x], argTypes := #[39, 39] }) (base : Nat) (v : Value) (l : List Wd) (hs : a.eval sl = v) (hown : RowW w base v l) (X : Nat) (y : Wd) (hx : a.eval x = .slice (some ⟨X, 0, none⟩) 1 1)
    (hc : w.cell? ⟨X, 0, none⟩ = some (.int .i64 y.kind) ∧ w.cell? ⟨X, 1, none⟩ = some (.string (ba y.text)) ∧ w.cell? ⟨X, 2, none⟩ = some (.int .i64 y.at')) (hl : l.length < 1000000) (hbase : base ≤ w.heap.size)
    (h : ∀ v' w', RowW w' base v' (l ++ [y]) → w.grownBy w' v.ownBlock → K (a.put o.dst v') w') :
    if Region.wanted o (yielded ops a.tmps) = true then Oper.wp Tryz.prog o a w K Q else E := by
  have hw : Region.wanted o (yielded ops a.tmps) = true := by simp [Region.wanted, hgd]
  rw [if_pos hw]
  obtain ⟨i0, hi, hz0, hz1, hz2⟩ := info_parts info_word
  have ha : ∀ j, (⟨X, 0, none⟩ : Addr).add j = ⟨X, j, none⟩ := fun j => by unfold Addr.add; split <;> simp_all
  obtain ⟨v', w', hr, h2, h3, _⟩ := run_append_own (P := Tryz.prog) w base 39 o.type 44 i0 (.agg #[.int .i64 0, .string no, .int .i64 0]) 3 32 Tryz.underlying39 hi hz0 hz1 hz2 rfl (by decide) v l.length (flatW l) hown
    ⟨X, 0, none⟩ 1 1 [.int .i64 y.kind, .string (ba y.text), .int .i64 y.at'] rfl (fun j u hj => by
      rw [ha]
      match j, hj with
      | 0, hj => simp at hj; subst hj; exact hc.1
      | 1, hj => simp at hj; subst hj; exact hc.2.1
      | 2, hj => simp at hj; subst hj; exact hc.2.2) (fun u hu => by simp at hu; rcases hu with rfl | rfl | rfl <;> rfl) (by unfold maxLen; omega) (by omega) hbase
  unfold Oper.wp execOp
  simp only [ho, resolve, invoke, builtin, Sem.run_bind, Sem.run_pure, Result.andThen_ok, List.map_toArray, List.map_cons, List.map_nil, hs, hx, hr]
  exact h v' w' (by unfold RowW; rw [flatW_append, List.length_append]; exact h2) h3
/-- What end answers, and leaves. -/
def EndP (W0 w w' : World) (Bc : Nat) (s : ByteArray) (r : Nat × Mc) (e : Ending) : Prop := e = .returned (.int .i64 r.1) ∧ Kept Bc w w' ∧ ∃ v', Cu W0 w' Bc s v' r.2
set_option maxRecDepth 100000 in
set_option maxHeartbeats 4000000 in
theorem end8 {W0 w : World} {Bc : Nat} {s : ByteArray} {v : Value} {m : Mc} (h : Cu W0 w Bc s v m) (i : Nat) (hi : i ≤ s.size) (hs : s.size ≤ 65535) (hf : m.frm ≤ i) (hacc : m.acc.length ≤ 65535) (fit : m.st ≠ 0 → Fit (s.extract m.frm i) m.st) :
    Calls Tryz.prog 36 #[.pointer (some ⟨Bc, 0, none⟩), .int .i64 i] w fun e w' => EndP W0 w w' Bc s (endM refL s.data.toList m i) e := by
  obtain ⟨st, frm, til, acc⟩ := m
  obtain ⟨c0, c1, c2, c3, c4⟩ := h.cells
  simp only at c0 c1 c2 c3 c4 hf hacc fit
  have hs' : s.size ≤ 9223372036854775807 := by omega
  by_cases h0 : st = 0
  · subst h0
    have HN : Hid (endM refL s.data.toList ⟨0, frm, til, acc⟩ i = (0, ⟨0, frm, til, acc⟩)) := hide rfl
    replace h := hide h
    go_enter Tryz.func36, Tryz.ntmps36
    go_wp2_with fail
    go_ret
    rw [HN.out]
    exact ⟨rfl, Lib.OthersKept.refl _ _ _, v, h.out⟩
  have n0 : ((st : Int) == 0) = false := by rw [beq_eq_false_iff_ne]; omega
  obtain ⟨x, hx⟩ : ∃ x, s.extract frm i = x := ⟨_, rfl⟩
  have hxl : Hid (x.data.toList = slc s.data.toList frm i) := hide (by rw [← hx, ba_ext s frm i hi, ba_list])
  have fit' : Fit x st := by rw [← hx]; exact fit h0
  obtain ⟨t, ht⟩ : ∃ t, s.extract i s.size = t := ⟨_, rfl⟩
  have htl : t.data.toList = s.data.toList.drop i := by rw [← ht, ba_ext s i s.size (Nat.le_refl _), ba_list]; unfold slc; rw [List.take_of_length_le (by rw [List.length_drop, ← Lib.size_eq]; omega)]
  have HP : CallS 64 #[.string t, .string (ba [40])] (.bool (callsL (s.data.toList.drop i))) := fun w => (Tryz.strings_HasPrefix t (ba [40]) w).mono (by
    rintro e w' ⟨rfl, rfl⟩
    exact ⟨by rw [htl]; rfl, rfl⟩)
  have HW := wordOf8 x st (callsL (s.data.toList.drop i)) fit'
  rw [hxl.out] at HW
  have hE : Hid (endM refL s.data.toList ⟨st, frm, til, acc⟩ i = match wOf refL (slc s.data.toList frm i) st (callsL (s.data.toList.drop i)) with
    | .bad e => (e, ⟨st, frm, til, acc⟩)
    | .ok k t n => (0, ⟨st, frm, til, acc ++ [⟨k, t, frm⟩]⟩)) := hide (by unfold endM; rw [if_neg h0]; cases wOf refL (slc s.data.toList frm i) st (callsL (s.data.toList.drop i)) <;> rfl)
  have hbad := hide (fun e h => wOf_bad (R := refL) (b := slc s.data.toList frm i) (st := st) (e := e) (c := callsL (s.data.toList.drop i)) h)
  generalize wOf refL (slc s.data.toList frm i) st (callsL (s.data.toList.drop i)) = T at *
  generalize callsL (s.data.toList.drop i) = called at *
  have j1 : (frm : Int) ≤ i := by omega
  have j2 : (i : Int) ≤ s.size := by omega
  have HW2 : Hid (∀ w', Below w.heap.size w w' → Calls Tryz.prog 63 #[.string x, .int .i64 st, .bool called] w' fun e w'' => e = .returned (tokV T) ∧ Below w'.heap.size w' w'') := hide (fun w' hb => HW.out w' (h.lay'.keep hb))
  clear HW htl hxl fit fit'
  have m0 := World.new_ne w _ c0
  have m2 := World.new_ne w _ c2
  have m3 := World.new_ne w _ c3
  replace h := hide h
  replace hacc := hide hacc
  replace hi := hide hi
  replace hf := hide hf
  replace h0 := hide h0
  cases T with
  | bad e =>
    have he := hbad.out e rfl
    have he1 : ((e : Int) != 0) = true := by rw [bne_iff_ne]; omega
    simp only [tokV] at HW2
    go_enter Tryz.func36, Tryz.ntmps36
    go_wp2_with fail
    rename_i K hK
    have hcut : ∀ (b : Nat) (W3 : World), Blk W3 b #[.int .i64 0, .string no, .int .i64 0] 44 → Below w.heap.size w W3 → w.heap.size ≤ b → K { tmps := #[.pointer (some ⟨Bc, 0, none⟩), .int .i64 i, undef, undef, .int .i64 0, .pointer (some ⟨b, 0, none⟩), .int .i64 e, .pointer (some ⟨Bc, 0, none⟩), .pointer (some ⟨Bc, 0, none⟩), .pointer (some ⟨Bc, 2, none⟩), .int .i64 st, .bool false, .tuple #[wdV 0 no 0, .int .i64 e], .pointer (some ⟨Bc, 0, none⟩), .pointer (some ⟨Bc, 0, none⟩), .pointer (some ⟨Bc, 0, none⟩), .string s, .pointer (some ⟨Bc, 0, none⟩), .pointer (some ⟨Bc, 0, none⟩), .pointer (some ⟨Bc, 3, none⟩), .int .i64 frm, .int .i64 i, .string x, .pointer (some ⟨Bc, 0, none⟩), .pointer (some ⟨Bc, 0, none⟩), .pointer (some ⟨Bc, 2, none⟩), .int .i64 st, .pointer (some ⟨Bc, 0, none⟩), .pointer (some ⟨Bc, 0, none⟩), .pointer (some ⟨Bc, 0, none⟩), .string s, .int .i64 i, .string t, .bool called, .tuple #[wdV 0 no 0, .int .i64 e], wdV 0 no 0, .int .i64 e, undef, undef, undef, undef, undef, undef, undef, undef, undef, undef, undef, undef, undef, undef, undef, undef, undef, undef], defers := [] } W3 := by
      intro b W3 bk3 B3 hb3
      clear HP HW2 m0 m2 m3 c0 c1 c2 c3 c4
      replace bk3 := hide bk3
      replace B3 := hide B3
      have h3 := hide (h.out.keep B3.out)
      refine hK _ _ ?_
      go_wp2_with fail
      go_ret
      rw [hE.out]
      exact ⟨rfl, kept_below B3.out, v, h3.out⟩
    go_region_held (fun w' => w'.cell? ⟨Bc, 0, none⟩ = some (.string s) ∧ w'.cell? ⟨Bc, 2, none⟩ = some (.int .i64 st) ∧ w'.cell? ⟨Bc, 3, none⟩ = some (.int .i64 frm)) (go_keep) (first | (go_at_call 64; refine (HP.out _).mono ?_; rintro e1 w2 ⟨rfl, rfl⟩) | (go_at_call 63; refine (HW2.out _ (by go_grown)).mono ?_; rintro e1 w2 ⟨rfl, hb⟩; have hB : Below w.heap.size w w2 := next (by go_grown) hb; have e0 := keep1 hB c0; have e2 := keep1 hB c2; have e3 := keep1 hB c3; have l0 := World.new_ne w2 _ e0; have l2 := World.new_ne w2 _ e2; have l3 := World.new_ne w2 _ e3; (try (have zb : Blk w2 w.heap.size #[.int .i64 0, .string no, .int .i64 0] 44 := (Blk.new w.drew _ _).keep hb; have z0 := zb.cells3.1; have z1 := zb.cells3.2.1; have z2 := zb.cells3.2.2; have zf := zb.fr; replace zb := hide zb)); replace hb := hide hb; replace hB := hide hB))
    · exact hcut _ _ (Blk.new _ _ _) (step hB.out _) hB.out.size
    · exact hcut _ _ (zb.out.put3 _ _ _) (below_put3 hB.out (Nat.le_refl _) _ _ _) (Nat.le_refl _)
    · exact hcut _ _ (zb.out.put3 _ _ _) (below_put3 hB.out (Nat.le_refl _) _ _ _) (Nat.le_refl _)
  | ok k u n =>
    simp only [tokV] at HW2
    go_enter Tryz.func36, Tryz.ntmps36
    go_wp2_with fail
    rename_i K hK
    have hcut : ∀ (b : Nat) (W3 : World), Blk W3 b #[.int .i64 k, .string (ba u), .int .i64 0] 44 → Below w.heap.size w W3 → w.heap.size ≤ b → K { tmps := #[.pointer (some ⟨Bc, 0, none⟩), .int .i64 i, undef, undef, .int .i64 0, .pointer (some ⟨b, 0, none⟩), .int .i64 0, .pointer (some ⟨Bc, 0, none⟩), .pointer (some ⟨Bc, 0, none⟩), .pointer (some ⟨Bc, 2, none⟩), .int .i64 st, .bool false, .tuple #[wdV k (ba u) 0, .int .i64 0], .pointer (some ⟨Bc, 0, none⟩), .pointer (some ⟨Bc, 0, none⟩), .pointer (some ⟨Bc, 0, none⟩), .string s, .pointer (some ⟨Bc, 0, none⟩), .pointer (some ⟨Bc, 0, none⟩), .pointer (some ⟨Bc, 3, none⟩), .int .i64 frm, .int .i64 i, .string x, .pointer (some ⟨Bc, 0, none⟩), .pointer (some ⟨Bc, 0, none⟩), .pointer (some ⟨Bc, 2, none⟩), .int .i64 st, .pointer (some ⟨Bc, 0, none⟩), .pointer (some ⟨Bc, 0, none⟩), .pointer (some ⟨Bc, 0, none⟩), .string s, .int .i64 i, .string t, .bool called, .tuple #[wdV k (ba u) 0, .int .i64 0], wdV k (ba u) 0, .int .i64 0, undef, undef, undef, undef, undef, undef, undef, undef, undef, undef, undef, undef, undef, undef, undef, undef, undef, undef], defers := [] } W3 := by
      intro b W3 bk3 B3 hb3
      clear HP HW2 m0 m2 m3 c0 c1 c2 c3 c4
      replace bk3 := hide bk3
      replace B3 := hide B3
      have h3 := hide (h.out.keep B3.out)
      refine hK _ _ ?_
      obtain ⟨c0, c1, c2, c3, c4⟩ := h3.out.cells
      simp only at c0 c1 c2 c3 c4
      obtain ⟨g0, g1, g2⟩ := bk3.out.cells3
      have gf := bk3.out.fr
      have hne3 : Hid (b ≠ Bc) := hide (fun e => by
        have h1 := h.out.blk.lt
        omega)
      obtain ⟨W4, hW4⟩ : ∃ W4, W3.setCell ⟨b, 2, none⟩ (.int .i64 frm) = W4 := ⟨_, rfl⟩
      have B4 : Hid (Below w.heap.size w W4) := hide (by rw [← hW4]; exact B3.out.setCell (p := ⟨b, 2, none⟩) hb3 _)
      have bk4 : Hid (Blk W4 b #[.int .i64 k, .string (ba u), .int .i64 frm] 44) := hide (by rw [← hW4]; exact bk3.out.set 2 _)
      have h4 := hide (h.out.keep B4.out)
      obtain ⟨d0, d1, d2, d3, d4⟩ := h4.out.cells
      simp only at d0 d1 d2 d3 d4
      obtain ⟨x0, x1, x2⟩ := bk4.out.cells3
      obtain ⟨av, cv, hv⟩ := row_slice h4.out.row
      have hz4 : Hid (W0.heap.size ≤ W4.heap.size) := hide h4.out.below.size
      have R0 := hide (row_drew (row_keep h4.out.row (step (Below.refl _ _) (wdO k (ba u) frm))))
      have b0 := hide (blk_drew (h4.out.blk.alloc (wdO k (ba u) frm)))
      have n0 := hide (row_ne h4.out.row h4.out.blk (by decide))
      have cn := (Blk.new W4 #[.int .i64 k, .string (ba u), .int .i64 frm] 44).cells3
      simp only at hv R0 b0 n0
      subst hv
      have y1 := fun o => (h4.out.blk.alloc o).at' 1
      simp at y1
      go_wp2_with fail
      go_region_law (refine step_appW rfl (.tmp 49) (.tmp 51) rfl W0.heap.size _ acc rfl R0.out W4.heap.size ⟨k, u, frm⟩ (by simp [Act.eval]) cn (by have := hacc.out; omega) (by have := hz4.out; simp; omega) ?_; intro v' w5 hrow5 hg5; obtain ⟨a5, c5, rfl⟩ : ∃ a c, v' = .slice a (acc.length + 1) c := (by have h := row_slice hrow5; rwa [List.length_append] at h); have b5 := b0.out.kept hg5 (fun e => n0.out e.symm); have u5 : w5.cell? ⟨Bc, 1, none⟩ = some (.slice av acc.length cv) := b5.at' 1; have f5 := b5.fr 1; replace hrow5 := hide hrow5; replace hg5 := hide hg5; replace b5 := hide b5)
      all_goals (
        have G : Hid (W4.grownBy w5 (Value.slice av acc.length cv).ownBlock) := hide (grown_drew (World.grownBy.trans (World.grownBy_alloc _ _ _) hg5.out))
        have B5 := hide (h4.out.below.grown G.out h4.out.below.size (fun k e => (h4.out.row.lt k e).1))
        have K5 : Hid (Kept Bc W4 w5) := hide (Lib.OthersKept.grown (((Lib.OthersKept.refl _ _ W4).alloc (wdO k (ba u) frm)).drew) hg5.out (fun g hg => row_kind R0.out g hg))
        have n5 := hide (row_ne hrow5.out b5.out (by decide))
        clear u5 f5 x0 x1 x2 d0 d1 d2 d3 d4 g0 g1 g2 gf y1 cn c0 c1 c2 c3 c4
        go_wp2_with fail
        go_ret
        rw [hE.out]
        exact ⟨rfl, ((kept_below B4.out).trans K5.out).trans (kept_set _ _ _ _), _, ⟨B5.out.setCell (p := ⟨Bc, 1, none⟩) h.out.bc _, h.out.bc, b5.out.set 1 _, hrow5.out.kept (grown_set _ _ _ _) (.inr n5.out), h.out.lay⟩⟩)
    go_region_held (fun w' => w'.cell? ⟨Bc, 0, none⟩ = some (.string s) ∧ w'.cell? ⟨Bc, 2, none⟩ = some (.int .i64 st) ∧ w'.cell? ⟨Bc, 3, none⟩ = some (.int .i64 frm)) (go_keep) (first | (go_at_call 64; refine (HP.out _).mono ?_; rintro e1 w2 ⟨rfl, rfl⟩) | (go_at_call 63; refine (HW2.out _ (by go_grown)).mono ?_; rintro e1 w2 ⟨rfl, hb⟩; have hB : Below w.heap.size w w2 := next (by go_grown) hb; have e0 := keep1 hB c0; have e2 := keep1 hB c2; have e3 := keep1 hB c3; have l0 := World.new_ne w2 _ e0; have l2 := World.new_ne w2 _ e2; have l3 := World.new_ne w2 _ e3; (try (have zb : Blk w2 w.heap.size #[.int .i64 0, .string no, .int .i64 0] 44 := (Blk.new w.drew _ _).keep hb; have z0 := zb.cells3.1; have z1 := zb.cells3.2.1; have z2 := zb.cells3.2.2; have zf := zb.fr; replace zb := hide zb)); replace hb := hide hb; replace hB := hide hB))
    · exact hcut _ _ (Blk.new _ _ _) (step hB.out _) hB.out.size
    · exact hcut _ _ (zb.out.put3 _ _ _) (below_put3 hB.out (Nat.le_refl _) _ _ _) (Nat.le_refl _)
    · exact hcut _ _ (zb.out.put3 _ _ _) (below_put3 hB.out (Nat.le_refl _) _ _ _) (Nat.le_refl _)
end Go.Proofs.YtdlomdbmmhjppaaGreatDoor
