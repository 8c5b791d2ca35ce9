/- sifted of a table of things of type int: the places of an area at which something lies, in row order. Proved of the Go text. -/
import Derived.Test.YtmfkeobjbcinpaaAll7I
import Derived.Test.YtmfkeobjbcinpaaHas3
namespace Go.Proofs.Ytmfkeobjbcinpaa
open Go.RowKit Go.Shelf Go.Sort Go.Maps
set_option linter.unusedVariables false

set_option maxRecDepth 100000 in
set_option maxHeartbeats 2000000 in
theorem siftI_any {w : World} {Bt b : Nat} {L : Tb (Int)} (h : TabI w Bt b L) (hl : L.length ≤ 65536) (t l bo r : Int) :
    Calls Try.prog 54 #[.pointer (some ⟨Bt, 0, none⟩), areaV t l bo r] w fun e w' => ∃ v, e = .returned v ∧ RowS w' w.heap.size v ((keysT L).filter (hasA t l bo r)) ∧ Below w.heap.size w w' := by
  have HA := hide (fun x y => ahas_any t l bo r x y)
  have c0 := (h.1.alloc (areaO t l bo r)).c1
  obtain ⟨w0, hrun, R0, hb0⟩ := Rng.start Try.underlying88 (h.2.alloc (areaO t l bo r))
  have A0 := hide ((Blk.new w #[.int .i64 t, .int .i64 l, .int .i64 bo, .int .i64 r] 37).keep hb0)
  have B0 := hide (next (step (Below.refl w.heap.size w) (areaO t l bo r)) hb0)
  have hsrt := hide (keysT_sorted (TabI.sorted h))
  replace R0 := hide R0
  simp only [World.size_alloc] at R0 hrun
  have hlt := hide h.lt
  clear hb0 h
  go_enter Try.func54, Try.ntmps54
  go_wp2_with fail
  clear c0 hrun
  go_loopw [5] (fun v wr => ∃ C : List Sp, Hid (Rng wr b (w.heap.size + 1) (L.map valI) C) ∧ Hid (RowS wr w.heap.size v (C.filter (hasA t l bo r))) ∧ Hid (Blk wr w.heap.size #[.int .i64 t, .int .i64 l, .int .i64 bo, .int .i64 r] 37) ∧ Hid (Below w.heap.size w wr)) (fun _ wr => wr.rangeLeft b (w.heap.size + 1))
  case atStart => exact ⟨[], R0, hide (RowS.nil _ _), A0, B0⟩
  case round =>
    clear R0 A0 B0
    obtain ⟨C, Ri, Vi, Ai, Bi⟩ := hrel
    rcases Ri.out.next 0 with ⟨hp, hnx⟩ | ⟨x, y, v, w2, hmem, hnx, R2, hg2, hz2, hen⟩
    · rw [keys_valI] at hp
      have hpf := hp.filter (hasA t l bo r)
      have hse := sortL_eq hpf (List.Pairwise.filter _ hsrt.out)
      have hle : (C.filter (hasA t l bo r)).length < 4611686018427387904 := by
        have e1 := hp.length_eq
        have e2 := List.length_filter_le (hasA t l bo r) C
        simp [keysT] at e1
        omega
      have HS := hide (sortS_any Vi.out hle)
      rw [hse] at HS
      have hlen : (C.filter (hasA t l bo r)).length = ((keysT L).filter (hasA t l bo r)).length := hpf.length_eq
      replace hlen := hide hlen
      clear hp hpf hse hle
      go_wp2_with fail
      refine HS.out.mono ?_
      rintro e w3 ⟨rfl, hrow3, hg3⟩
      replace hrow3 := hide hrow3
      replace hg3 := hide hg3
      go_wp2_with fail
      go_ret
      exact ⟨_, rfl, by have := hrow3.out; unfold RowS; rw [← hlen.out]; exact this, row_grown Bi.out Vi.out hg3.out⟩
    · have l1 := Ri.out.left
      have l2 := R2.left
      simp only [List.length_append, List.length_cons, List.length_nil] at l2
      have hCl : Hid (C.length < 1000000) := hide (by rw [List.length_map] at l1; omega)
      have hdec : Hid (w2.rangeLeft b (w.heap.size + 1) < wr.rangeLeft b (w.heap.size + 1)) := hide (by omega)
      have A2 := hide (Ai.out.kept hg2 (by simp))
      obtain ⟨m0, s0, q0, k0, hit⟩ := Ri.out.iter
      have V2 : Hid (RowS w2 w.heap.size _ (C.filter (hasA t l bo r))) := hide (Vi.out.kept hg2 (by
        rcases Vi.out.2 with ⟨e, _⟩ | ⟨g, cap, cur, e, _, hgb, _⟩
        · rw [e]; exact .inl rfl
        · refine .inr fun e' => ?_
          rw [e] at e'
          have : g = w.heap.size + 1 := by simpa [Value.ownBlock] using e'
          subst this
          rw [hit] at hgb; cases hgb))
      have B2 := hide (Bi.out.grown hg2 Bi.out.size (fun k e => by cases e; omega))
      replace R2 := hide R2
      have A3 := hide (A2.out.alloc (spotO x y))
      obtain ⟨a0, a1, a2, a3⟩ := A3.out.c4
      clear l1 l2 hmem hg2 hz2 hit Ri Vi Ai Bi
      go_wp2_with fail
      refine (HA.out x y _).mono ?_
      rintro e w3 ⟨rfl, hb3⟩
      have R3 := hide ((R2.out.keep ((Below.refl _ _).alloc (Nat.le_refl _) (spotO x y))).keep hb3)
      have V3 := hide (row_keep (V2.out.alloc (spotO x y)) hb3)
      have A4 := hide (A3.out.keep hb3)
      have B3 := hide (next (step B2.out (spotO x y)) hb3)
      have X3 := hide ((Blk.new w2 #[.int .i64 x, .int .i64 y] 35).keep hb3)
      have D3 : Hid (w3.rangeLeft b (w.heap.size + 1) = w2.rangeLeft b (w.heap.size + 1)) := hide (by have e1 := R3.out.left; have e2 := R2.out.left; omega)
      clear a0 a1 a2 a3 R2 V2 A2 A3 B2 hb3
      cases hq : hasB t l bo r x y
      · have hf : Hid ((C ++ [(x, y)]).filter (hasA t l bo r) = C.filter (hasA t l bo r)) := hide (by rw [List.filter_append, List.filter_cons_of_neg (by simp [hasA, hq])]; simp)
        go_wp2_with fail
        go_roundw
        case rel => exact ⟨C ++ [(x, y)], R3, hide (by rw [hf.out]; exact V3.out), A4, B3⟩
        case measure => rw [D3.out]; exact hdec.out
      · have hf : Hid ((C ++ [(x, y)]).filter (hasA t l bo r) = C.filter (hasA t l bo r) ++ [(x, y)]) := hide (by rw [List.filter_append, List.filter_cons_of_pos (by simp [hasA, hq])]; simp)
        obtain ⟨x0, x1⟩ := X3.out.c2
        have hfl : Hid ((C.filter (hasA t l bo r)).length < 1000000) := hide (Nat.lt_of_le_of_lt (List.length_filter_le _ _) hCl.out)
        have Bb := B3.out.size
        go_wp2_with (first
          | (at_builtin; refine wpList_appS rfl _ _ rfl rfl rfl (V3.out.alloc (spotO x y)) (C2.new w3 _ _ _) hfl.out (by simp; omega) ?_; intro v' w4 hrow4 hg4 hloc; replace hrow4 := hide hrow4; replace hg4 := hide hg4)
          | go_in)
        have hV := V3.out.alloc (spotO x y)
        have R4' := R3.out.keep ((Below.refl _ _).alloc (Nat.le_refl _) (spotO x y))
        obtain ⟨m1, s1, q1, k1, hit⟩ := R4'.iter
        have lt := hlt.out
        have R4 := hide (R4'.kept hg4.out (fun e => by have := (hV.lt b e.symm).1; omega) (row_ne_obj hV hit rfl))
        have A5 := hide ((A4.out.alloc (spotO x y)).kept hg4.out (fun e => row_ne hV (A4.out.alloc (spotO x y)) (by decide) e.symm))
        have B4 := hide (row_grown (step B3.out (spotO x y)) hV hg4.out)
        have D4 : Hid (w4.rangeLeft b (w.heap.size + 1) = w2.rangeLeft b (w.heap.size + 1)) := hide (by rw [← D3.out]; have e1 := R4.out.left; have e2 := R3.out.left; omega)
        clear hV R4' hit lt x0 x1
        go_wp2_with fail
        go_roundw
        case rel => exact ⟨C ++ [(x, y)], R4, hide (by rw [hf.out]; exact hrow4.out), A5, B4⟩
        case measure => rw [D4.out]; exact hdec.out
end Go.Proofs.Ytmfkeobjbcinpaa
