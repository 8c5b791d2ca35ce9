/- print.textOf's closure, of an operation of one. print.textOf's closure, of an operation of two. -/
import Derived.Test.YtbpogngnhhkjbaaDoorPrJ
import Derived.Test.YtbpogngnhhkjbaaDoorMyJ
namespace Go.Proofs.YtbpogngnhhkjbaaDoor.T9
open Go.RowKit Go.Sort
set_option linter.unusedVariables false

set_option maxHeartbeats 2000000 in
set_option maxRecDepth 100000 in
/-- An operation of one. -/
theorem core_un (w0 : World) (hl : Lay11 w0) (b L : Nat) (nd : Nd) (k : Ex) (hk : nd.kind = 7) (hI : LayIs11 w0 b L k) : CoreIs w0 b L (.mk nd [k]) := by
  intro v n acc w hn ht hL hlen
  obtain ⟨a, len, cap, rfl, hl1, _, _, _⟩ := ht.un
  obtain rfl : len = 1 := hl1.out
  have e : txE (.mk nd [k]) = aheadL nd.op ++ frE (lv nd) k ++ behindL nd.op := by rw [txE_mk]; unfold nodeT; rw [if_pos hk]; rfl
  rw [e] at hlen ⊢
  simp only [List.length_append] at hlen
  obtain ⟨g, o, rfl, _, aa, kl, kc, tk, rk⟩ := ht.kidsAt.get (i := 0) (by omega)
  have tk : Tree w0 (exV k.nd (.slice aa kl kc)) k := tk
  have rk : w0.rangeAt g (o + 0 * 14) (exC k.nd (.slice aa kl kc)).toList := rk
  rw [Nat.zero_mul, Nat.add_zero] at rk
  have hg : Hid (g < w0.heap.size) := hide (World.block_lt_of_cell? w0 ⟨g, _, none⟩ (rk 0 _ rfl))
  have P0 := hide (Blk.new w (exC nd (.slice (some ⟨g, o, none⟩) 1 cap)) 30)
  have L0 := hide (hL.alloc (exO nd (.slice (some ⟨g, o, none⟩) 1 cap)))
  have HV := hide (levelOf_any nd (.slice (some ⟨g, o, none⟩) 1 cap) (w.alloc (exO nd (.slice (some ⟨g, o, none⟩) 1 cap))) (hl.keep L0.out.low) (fun e => by rw [hk] at e; cases e))
  have HS := hide (signsOf_any nd.op)
  have HI := hide (fun acc' w' (h : Lng w0 b L acc' w') (hz : acc'.length + (frE (lv nd) k).length < 70368744177664) => (show Calls Tryd.prog 31 #[lit14 k.nd (.slice aa kl kc), .int .i64 (lv nd), .pointer (some ⟨b, 0, none⟩), .pointer (some ⟨L, 0, none⟩)] w' _ from hI (exV k.nd (.slice aa kl kc)) (lv nd) acc' w' tk h hz))
  have hn' : ¬ lv nd < n := by have : n ≤ lv nd := hn; omega
  have K0 := hide (OK11.of_below (b := b) (step (Below.refl w.heap.size w) (exO nd (.slice (some ⟨g, o, none⟩) 1 cap))))
  have hb0 : Hid (w.heap.size ≠ b) := hide (by have := hL.lt; omega)
  have c0 := (at14 nd (.slice (some ⟨g, o, none⟩) 1 cap)).c0
  have c1 := (at14 nd (.slice (some ⟨g, o, none⟩) 1 cap)).c1
  have c13 := (at14 nd (.slice (some ⟨g, o, none⟩) 1 cap)).c13
  rw [hk] at c0
  replace hlen := hide hlen
  replace rk := hide rk
  generalize frE (lv nd) k = U at *
  generalize lv nd = ℓ at *
  generalize aheadL nd.op = A at *
  generalize behindL nd.op = Z at *
  clear ht hL e hn hI tk hl1
  go_enter Tryd.func31, Tryd.ntmps31
  go_wp2_with (first
    | (refine wpList_load_blk rfl 30 _ rfl _ rfl _ (by with_reducible exact P0.out) _ Tryd.underlying30 rfl (exC_info _ _) ?_)
    | (go_at_call 32; refine HV.out.mono ?_; rintro e w1 ⟨rfl, hb⟩; have P1 := hide (P0.out.keep hb); have L1 := hide (L0.out.keep hb); have K1 := hide (K0.out.trans (OK11.of_below hb)); have d0 := (P1.out.at' 0).trans c0; have d1 := (P1.out.at' 1).trans c1; clear hb)
    | (go_at_call 34; refine (HS.out _).mono ?_; rintro e w2 ⟨rfl, hb⟩; have P2 := hide (P1.out.keep hb); have L2 := hide (L1.out.keep hb); have K2 := hide (K1.out.trans (OK11.of_below hb)); clear hb)
    | (have hq := L2; go_at_call 35; refine (ws_any L2.out A (by have := hlen.out; omega)).mono ?_; rintro e w3 ⟨rfl, h1, h2⟩; clear hq; have L3 := hide h1; have P3 := hide (OK11.blk h2 P2.out hb0.out tX_ne); have K3 := hide (K2.out.trans h2); have V3 := L3.out.var.one; have d13 := (P3.out.at' 13).trans c13; have R3 := hide (range_of_block rk.out (L3.out.low.block g hg.out)); clear h1 h2 L2))
  obtain ⟨x0, x1, x2, x3, x4, x5, x6, x7, x8, x9, x10, x11, x12, x13⟩ := range14 R3.out
  refine still_tail 6 (by kernel_rfl) (by kernel_rfl) ?_
  simp only [List.take_succ_cons, List.take_zero, List.drop_succ_cons, List.drop_zero]
  repeat still_step
  refine wpStill_nil ?_
  clear x0 x1 x2 x3 x4 x5 x6 x7 x8 x9 x10 x11 x12 x13
  have L3d := hide L3.out.drew
  have K3d := hide (show OK11 b w w3.drew from K3.out)
  go_wp2_with (first
    | (go_at_call 35; refine (ws_any L4.out Z (by simp only [List.length_append]; have := hlen.out; omega)).mono ?_; rintro e w5 ⟨rfl, h1, h2⟩; have L5 := hide h1; have K5 := hide (K4.out.trans h2); clear h1 h2)
    | (go_at_call 31; refine (HI.out _ _ L3d.out (by rw [List.length_append]; have := hlen.out; omega)).mono ?_; rintro e w4 ⟨rfl, h1, h2⟩; have L4 := hide h1; have K4 := hide (K3d.out.trans h2); clear h1 h2))
  go_end0
  exact ⟨rfl, by have := L5.out; simpa only [List.append_assoc] using this, K5.out⟩
end Go.Proofs.YtbpogngnhhkjbaaDoor.T9
namespace Go.Proofs.YtbpogngnhhkjbaaDoor.T9
open Go.RowKit Go.Sort
set_option linter.unusedVariables false

set_option maxHeartbeats 4000000 in
set_option maxRecDepth 100000 in
/-- An operation of two. -/
theorem core_bin (w0 : World) (hl : Lay11 w0) (b L : Nat) (nd : Nd) (k j : Ex) (hk : nd.kind = 8) (ho : 1 ≤ nd.op ∧ nd.op ≤ 12) (hI : LayIs11 w0 b L k) (hJ : LayIs11 w0 b L j) : CoreIs w0 b L (.mk nd [k, j]) := by
  intro v n acc w hn ht hL hlen
  obtain ⟨a, len, cap, rfl, hl1, _, _, _⟩ := ht.un
  obtain rfl : len = 2 := hl1.out
  have e : txE (.mk nd [k, j]) = frE (lv nd) k ++ sgB nd.op ++ frE (lv nd + 1) j := by rw [txE_mk]; unfold nodeT; rw [if_neg (by omega), if_pos hk]; rfl
  rw [e] at hlen ⊢
  simp only [List.length_append] at hlen
  obtain ⟨g, o, rfl, _, aa, kl, kc, tk, rk⟩ := ht.kidsAt.get (i := 0) (by omega)
  obtain ⟨g', o', hgo, _, ja, jl, jc, tj, rj⟩ := ht.kidsAt.get (i := 1) (by omega)
  obtain ⟨rfl, rfl⟩ : g' = g ∧ o' = o := by simp at hgo; exact ⟨hgo.1.symm, hgo.2.symm⟩
  have tk : Tree w0 (exV k.nd (.slice aa kl kc)) k := tk
  have rk : w0.rangeAt g' (o' + 0 * 14) (exC k.nd (.slice aa kl kc)).toList := rk
  have tj : Tree w0 (exV j.nd (.slice ja jl jc)) j := tj
  have rj : w0.rangeAt g' (o' + 1 * 14) (exC j.nd (.slice ja jl jc)).toList := rj
  rw [Nat.zero_mul, Nat.add_zero] at rk
  rw [Nat.one_mul] at rj
  have hg : Hid (g' < w0.heap.size) := hide (World.block_lt_of_cell? w0 ⟨g', _, none⟩ (rk 0 _ rfl))
  have P0 := hide (Blk.new w (exC nd (.slice (some ⟨g', o', none⟩) 2 cap)) 30)
  have L0 := hide (hL.alloc (exO nd (.slice (some ⟨g', o', none⟩) 2 cap)))
  have HV := hide (levelOf_any nd (.slice (some ⟨g', o', none⟩) 2 cap) (w.alloc (exO nd (.slice (some ⟨g', o', none⟩) 2 cap))) (hl.keep L0.out.low) (fun _ => ho))
  have HI := hide (fun acc' w' (h : Lng w0 b L acc' w') (hz : acc'.length + (frE (lv nd) k).length < 70368744177664) => (show Calls Tryd.prog 31 #[lit14 k.nd (.slice aa kl kc), .int .i64 (lv nd), .pointer (some ⟨b, 0, none⟩), .pointer (some ⟨L, 0, none⟩)] w' _ from hI (exV k.nd (.slice aa kl kc)) (lv nd) acc' w' tk h hz))
  have HJ := hide (fun acc' w' (h : Lng w0 b L acc' w') (hz : acc'.length + (frE (lv nd + 1) j).length < 70368744177664) => (show Calls Tryd.prog 31 #[lit14 j.nd (.slice ja jl jc), .int .i64 (lv nd + 1), .pointer (some ⟨b, 0, none⟩), .pointer (some ⟨L, 0, none⟩)] w' _ from hJ (exV j.nd (.slice ja jl jc)) (lv nd + 1) acc' w' tj h hz))
  have hS := hide (fun w' (h : Below w0.heap.size w0 w') => (hl.keep h).sgn ho)
  have hn' : ¬ lv nd < n := by have : n ≤ lv nd := hn; omega
  have hv5 : lv nd ≤ 8 := by unfold lv lvB; (repeat' split) <;> omega
  have wl : IntKind.i64.wrap (lv nd + 1) = lv nd + 1 := by rw [IntKind.wrap_i64]; have := lv_pos nd; omega
  have K0 := hide (OK11.of_below (b := b) (step (Below.refl w.heap.size w) (exO nd (.slice (some ⟨g', o', none⟩) 2 cap))))
  have hb0 : Hid (w.heap.size ≠ b) := hide (by have := hL.lt; omega)
  have c0 := (at14 nd (.slice (some ⟨g', o', none⟩) 2 cap)).c0
  have c1 := (at14 nd (.slice (some ⟨g', o', none⟩) 2 cap)).c1
  have c13 := (at14 nd (.slice (some ⟨g', o', none⟩) 2 cap)).c13
  have o1 := ho.1
  have o2 := ho.2
  have o3 : 0 ≤ nd.op := by omega
  have o4 : nd.op < 13 := by omega
  rw [hk] at c0
  replace hlen := hide hlen
  replace rk := hide rk
  replace rj := hide rj
  generalize frE (lv nd) k = U at *
  generalize frE (lv nd + 1) j = V at *
  generalize lv nd = ℓ at *
  generalize sgB nd.op = S at *
  clear ht hL e hn hI hJ tk tj hl1 hgo ho hv5
  go_enter Tryd.func31, Tryd.ntmps31
  go_wp2_with (first
    | (refine wpList_load_blk rfl 30 _ rfl _ rfl _ (by with_reducible exact P0.out) _ Tryd.underlying30 rfl (exC_info _ _) ?_)
    | (go_at_call 32; refine HV.out.mono ?_; rintro e w1 ⟨rfl, hb⟩; have P1 := hide (P0.out.keep hb); have L1 := hide (L0.out.keep hb); have K1 := hide (K0.out.trans (OK11.of_below hb)); have d0 := (P1.out.at' 0).trans c0; have d13 := (P1.out.at' 13).trans c13; have V1 := L1.out.var.one; have R1 := hide (range_of_block rk.out (L1.out.low.block g' hg.out)); clear hb))
  obtain ⟨x0, x1, x2, x3, x4, x5, x6, x7, x8, x9, x10, x11, x12, x13⟩ := range14 R1.out
  refine still_tail 6 (by kernel_rfl) (by kernel_rfl) ?_
  simp only [List.take_succ_cons, List.take_zero, List.drop_succ_cons, List.drop_zero]
  repeat still_step
  refine wpStill_nil ?_
  clear x0 x1 x2 x3 x4 x5 x6 x7 x8 x9 x10 x11 x12 x13 d0 d13 V1
  have L1d := hide L1.out.drew
  have P1d := hide (show Blk w1.drew w.heap.size (exC nd (.slice (some ⟨g', o', none⟩) 2 cap)) 30 from P1.out)
  have K1d := hide (show OK11 b w w1.drew from K1.out)
  go_wp2_with (first
    | (go_at_call 35; refine (ws_any L2.out S (by simp only [List.length_append]; have := hlen.out; omega)).mono ?_; rintro e w3 ⟨rfl, h1, h2⟩; have L3 := hide h1; have P3 := hide (OK11.blk h2 P2.out hb0.out tX_ne); have K3 := hide (K2.out.trans h2); have V3 := L3.out.var.one; have d13 := (P3.out.at' 13).trans c13; have R3 := hide (range_of_block rj.out (L3.out.low.block g' hg.out)); clear h1 h2)
    | (go_at_call 31; refine (HI.out _ _ L1d.out (by have := hlen.out; omega)).mono ?_; rintro e w2 ⟨rfl, h1, h2⟩; have L2 := hide h1; have P2 := hide (OK11.blk h2 P1d.out hb0.out tX_ne); have K2 := hide (K1d.out.trans h2); have d1 := (P2.out.at' 1).trans c1; have sS := hS.out _ L2.out.low; clear h1 h2))
  obtain ⟨x0, x1, x2, x3, x4, x5, x6, x7, x8, x9, x10, x11, x12, x13⟩ := range14 R3.out
  refine still_tail 7 (by kernel_rfl) (by kernel_rfl) ?_
  simp only [List.take_succ_cons, List.take_zero, List.drop_succ_cons, List.drop_zero]
  repeat still_step
  refine wpStill_nil ?_
  clear x0 x1 x2 x3 x4 x5 x6 x7 x8 x9 x10 x11 x12 x13 d13 V3
  have L3d := hide L3.out.drew
  have K3d := hide (show OK11 b w w3.drew from K3.out)
  go_wp2_with (first
    | (go_at_call 31; refine (HJ.out _ _ L3d.out (by simp only [List.length_append]; have := hlen.out; omega)).mono ?_; rintro e w4 ⟨rfl, h1, h2⟩; have L4 := hide h1; have K4 := hide (K3d.out.trans h2); clear h1 h2))
  go_end0
  exact ⟨rfl, by have := L4.out; simpa only [List.append_assoc] using this, K4.out⟩
end Go.Proofs.YtbpogngnhhkjbaaDoor.T9
