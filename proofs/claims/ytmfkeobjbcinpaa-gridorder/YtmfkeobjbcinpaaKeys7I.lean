/- What maps.Keys over a map from places to things of type int answers: an iterator that hands over each place once, in some order. Proved of the Go text, for every loop body that leaves walks alone. -/
import Derived.Test.YtmfkeobjbcinpaaKeys7
namespace Go.Proofs.Ytmfkeobjbcinpaa
open Go.RowKit Go.Shelf Go.Sort Go.Maps
set_option linter.unusedVariables false
attribute [local go_sem] Oper.semAt_some

theorem keysFI_any (b : Nat) (w : World) : Calls Try.prog 49 #[.map (some b)] w fun e w' => e = .returned (.func (.func 69) #[] #[.pointer (some ⟨w.heap.size, 0, none⟩)]) ∧ w' = w.alloc (.cells #[.map (some b)] 88) := by
  go_enter Try.func49, Try.ntmps49
  go_wp2_with fail
  go_ret
  exact ⟨rfl, rfl⟩
set_option maxRecDepth 100000 in
set_option maxHeartbeats 2000000 in
theorem keys1I_in (n : Nat) (hn : 1 ≤ n) (lo Bm b : Nat) (L : Tb Value) (J Jx : List Sp → World → Prop) (HY : Hid (KeyYields n lo L.length J Jx)) (W : World) (hJ : AbidesFrom W.heap.size J)
    (hm : W.cell? ⟨Bm, 0, none⟩ = some (.map (some b))) (ht : Tab W b L) (h0 : J [] W) :
    CallsIn Fence.wide n Try.prog 69 #[.func (.yield lo) #[] #[], .pointer (some ⟨Bm, 0, none⟩)] W fun e W' => (∃ v, e = .returned v) ∧ ((∃ ys, ys.Perm (keysT L) ∧ J ys W') ∨ ∃ pre, Jx pre W') := by
  obtain ⟨w0, hrun, R0, hb0⟩ := Rng.start Try.underlying88 ht
  have J1 := hide (hJ _ _ w0 none h0 (grown_below hb0 none) (fun r h => by cases h))
  replace R0 := hide R0
  replace hJ := hide hJ
  clear hb0 ht h0
  refine callsIn_of_wp Try.func69 rfl trivial ?_ rfl
  simp only [Try.ntmps69, List.size_toArray, List.length_cons, List.length_nil, Nat.reduceAdd, Nat.reduceSub, Array.replicate_succ, Array.replicate_zero, List.push_toArray, List.append_toArray, List.nil_append, List.cons_append]
  gi_wp2
  gi_loopw [3] (fun _ wr => ∃ C : List Sp, Hid (Rng wr b W.heap.size L C) ∧ Hid (J C wr)) (fun _ wr => wr.rangeLeft b W.heap.size)
  case atStart => exact ⟨[], R0, J1⟩
  case round =>
    obtain ⟨C, Ri, Ji⟩ := hrel
    rcases Ri.out.next 0 with ⟨hp, hnx⟩ | ⟨r, c, v, w2, hmem, hnx, R2, hg2, hz2, hen⟩
    · replace hp := hide hp
      gi_wp2
      go_end0
      exact ⟨⟨_, rfl⟩, .inl ⟨C, hp.out, Ji.out⟩⟩
    · have J2 : Hid (J C w2) := hide (hJ.out _ _ _ (some W.heap.size) Ji.out hg2 (fun q e => by cases e; exact ⟨Nat.le_refl _, Ri.out.walk⟩))
      have J3 : Hid (J C (w2.alloc (spotO r c))) := hide (hJ.out _ _ _ none J2.out (World.grownBy_alloc _ _ _) (fun q e => by cases e))
      have l1 := Ri.out.left
      have l2 := R2.left
      simp only [List.length_append, List.length_cons, List.length_nil] at l2
      have hlen : Hid (C.length < L.length) := hide (by omega)
      have hdec : Hid (w2.rangeLeft b W.heap.size < wr.rangeLeft b W.heap.size) := hide (by omega)
      obtain ⟨fn, tmps, assign, body, hy, hR⟩ := HY.out C (r, c) _ J3.out hlen.out
      dsimp only at hy
      replace R2 := hide R2
      clear l1 l2 hmem hg2 hz2 J2 J3
      gi_wp2
      refine hR.mono ?_
      rintro e W3 (⟨rfl, hJ3, hk3⟩ | ⟨rfl, hJx3⟩)
      · have R3 := hide ((R2.out.keep ((Below.refl _ _).alloc (Nat.le_refl _) (spotO r c))).walks hk3)
        have hd3 : Hid (W3.rangeLeft b W.heap.size = w2.rangeLeft b W.heap.size) := hide (by have a1 := R3.out.left; have a2 := R2.out.left; omega)
        gi_wp2
        go_roundw
        case rel => exact ⟨C ++ [(r, c)], R3, hide hJ3⟩
        case measure => rw [hd3.out]; exact hdec.out
      · gi_wp2
        refine bodyPost_ret (results_none rfl _ _ _) rfl ?_
        exact ⟨⟨_, rfl⟩, .inr ⟨_, hJx3⟩⟩
/-- The iterator's contract. -/
theorem keysI_stops (n : Nat) (hn : 1 ≤ n) (Bm b : Nat) (L : Tb Value) (w : World) (hm : w.cell? ⟨Bm, 0, none⟩ = some (.map (some b))) (ht : Tab w b L) : KeysGive n 69 #[.pointer (some ⟨Bm, 0, none⟩)] (fun ys => ys.Perm (keysT L)) L.length w := fun lo J Jx W hW hJ _ hY h0 =>
  (keys1I_in n hn lo Bm b L J Jx (hide hY) W hJ (keep1 hW hm) (ht.keep hW) h0).mono fun e W' ⟨h, h'⟩ => ⟨h, h'.elim .inl (fun ⟨pre, h⟩ => .inr ⟨pre, trivial, h⟩)⟩
end Go.Proofs.Ytmfkeobjbcinpaa
