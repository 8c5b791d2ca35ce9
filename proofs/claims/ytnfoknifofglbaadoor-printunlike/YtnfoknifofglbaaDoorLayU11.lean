/- print.textOf's closure, of an operation of one. -/
import Derived.Test.YtnfoknifofglbaaDoorLayT11
import Derived.Test.YtnfoknifofglbaaDoorEq9
namespace Go.Proofs.YtnfoknifofglbaaDoor.T9
open Go.RowKit Go.Sort
set_option linter.unusedVariables false

set_option maxHeartbeats 2000000 in
set_option maxRecDepth 100000 in
/-- An operation of one. -/
theorem core_un (w0 : World) (hl : Lay11 w0) (b L : Nat) (nd : Nd) (k : Ex) (hk : nd.kind = 7) (hI : LayIs11 w0 b L k) : CoreIs w0 b L (.mk nd [k]) := by
  intro v n acc w hn ht hL hlen
  obtain ⟨a, len, cap, rfl, hl1, _, _, _⟩ := ht.un
  obtain rfl : len = 1 := hl1.out
  have e : txE (.mk nd [k]) = aheadL nd.op ++ frE (lv nd) k ++ behindL nd.op := by rw [txE_mk]; unfold nodeT; rw [if_pos hk]; rfl
  rw [e] at hlen ⊢
  simp only [List.length_append] at hlen
  obtain ⟨g, o, rfl, _, aa, kl, kc, tk, rk⟩ := ht.kidsAt.get (i := 0) (by omega)
  have tk : Tree w0 (exV k.nd (.slice aa kl kc)) k := tk
  have rk : w0.rangeAt g (o + 0 * 14) (exC k.nd (.slice aa kl kc)).toList := rk
  rw [Nat.zero_mul, Nat.add_zero] at rk
  have hg : Hid (g < w0.heap.size) := hide (World.block_lt_of_cell? w0 ⟨g, _, none⟩ (rk 0 _ rfl))
  have P0 := hide (Blk.new w (exC nd (.slice (some ⟨g, o, none⟩) 1 cap)) 26)
  have L0 := hide (hL.alloc (exO nd (.slice (some ⟨g, o, none⟩) 1 cap)))
  have HV := hide (levelOf_any nd (.slice (some ⟨g, o, none⟩) 1 cap) (w.alloc (exO nd (.slice (some ⟨g, o, none⟩) 1 cap))) (hl.keep L0.out.low) (fun e => by rw [hk] at e; cases e))
  have HS := hide (signsOf_any nd.op)
  have HI := hide (fun acc' w' (h : Lng w0 b L acc' w') (hz : acc'.length + (frE (lv nd) k).length < 70368744177664) => (show Calls Tryd.prog 30 #[lit14 k.nd (.slice aa kl kc), .int .i64 (lv nd), .pointer (some ⟨b, 0, none⟩), .pointer (some ⟨L, 0, none⟩)] w' _ from hI (exV k.nd (.slice aa kl kc)) (lv nd) acc' w' tk h hz))
  have hn' : ¬ lv nd < n := by have : n ≤ lv nd := hn; omega
  have K0 := hide (OK11.of_below (b := b) (step (Below.refl w.heap.size w) (exO nd (.slice (some ⟨g, o, none⟩) 1 cap))))
  have hb0 : Hid (w.heap.size ≠ b) := hide (by have := hL.lt; omega)
  have c0 := (at14 nd (.slice (some ⟨g, o, none⟩) 1 cap)).c0
  have c1 := (at14 nd (.slice (some ⟨g, o, none⟩) 1 cap)).c1
  have c13 := (at14 nd (.slice (some ⟨g, o, none⟩) 1 cap)).c13
  rw [hk] at c0
  replace hlen := hide hlen
  replace rk := hide rk
  generalize frE (lv nd) k = U at *
  generalize lv nd = ℓ at *
  generalize aheadL nd.op = A at *
  generalize behindL nd.op = Z at *
  clear ht hL e hn hI tk hl1
  go_enter Tryd.func30, Tryd.ntmps30
  go_wp2_with (first
    | (refine wpList_load_blk rfl 26 _ rfl _ rfl _ (by with_reducible exact P0.out) _ Tryd.underlying26 rfl (exC_info _ _) ?_)
    | (go_at_call 31; refine HV.out.mono ?_; rintro e w1 ⟨rfl, hb⟩; have P1 := hide (P0.out.keep hb); have L1 := hide (L0.out.keep hb); have K1 := hide (K0.out.trans (OK11.of_below hb)); have d0 := (P1.out.at' 0).trans c0; have d1 := (P1.out.at' 1).trans c1; clear hb)
    | (go_at_call 33; refine (HS.out _).mono ?_; rintro e w2 ⟨rfl, hb⟩; have P2 := hide (P1.out.keep hb); have L2 := hide (L1.out.keep hb); have K2 := hide (K1.out.trans (OK11.of_below hb)); clear hb)
    | (have hq := L2; go_at_call 34; refine (ws_any L2.out A (by have := hlen.out; omega)).mono ?_; rintro e w3 ⟨rfl, h1, h2⟩; clear hq; have L3 := hide h1; have P3 := hide (OK11.blk h2 P2.out hb0.out tX_ne); have K3 := hide (K2.out.trans h2); have V3 := L3.out.var.one; have d13 := (P3.out.at' 13).trans c13; have R3 := hide (range_of_block rk.out (L3.out.low.block g hg.out)); clear h1 h2 L2))
  obtain ⟨x0, x1, x2, x3, x4, x5, x6, x7, x8, x9, x10, x11, x12, x13⟩ := range14 R3.out
  refine still_tail 6 (by kernel_rfl) (by kernel_rfl) ?_
  simp only [List.take_succ_cons, List.take_zero, List.drop_succ_cons, List.drop_zero]
  repeat still_step
  refine wpStill_nil ?_
  clear x0 x1 x2 x3 x4 x5 x6 x7 x8 x9 x10 x11 x12 x13
  have L3d := hide L3.out.drew
  have K3d := hide (show OK11 b w w3.drew from K3.out)
  go_wp2_with (first
    | (go_at_call 34; refine (ws_any L4.out Z (by simp only [List.length_append]; have := hlen.out; omega)).mono ?_; rintro e w5 ⟨rfl, h1, h2⟩; have L5 := hide h1; have K5 := hide (K4.out.trans h2); clear h1 h2)
    | (go_at_call 30; refine (HI.out _ _ L3d.out (by rw [List.length_append]; have := hlen.out; omega)).mono ?_; rintro e w4 ⟨rfl, h1, h2⟩; have L4 := hide h1; have K4 := hide (K3d.out.trans h2); clear h1 h2))
  go_end0
  exact ⟨rfl, by have := L5.out; simpa only [List.append_assoc] using this, K5.out⟩
end Go.Proofs.YtnfoknifofglbaaDoor.T9
