/- print.textOf's closure, of a call. -/
import Derived.Test.YtbpogngnhhkjbaaDoorPrJ
import Derived.Test.YtbpogngnhhkjbaaDoorMyJ
namespace Go.Proofs.YtbpogngnhhkjbaaDoor.T9
open Go.RowKit Go.Sort
set_option linter.unusedVariables false

theorem arg_step (ks : List Ex) (i : Nat) (h : i < ks.length) (f : Bool) : argF f ((ks.drop i).map fun k => (txE k, lv k.nd)) = (if f then [44] else []) ++ frE 1 ks[i] ++ argF true ((ks.drop (i + 1)).map fun k => (txE k, lv k.nd)) := by
  rw [List.drop_eq_getElem_cons h, List.map_cons, argF]
  have : frE 1 ks[i] = txE ks[i] := frE_core (lv_pos _)
  rw [this]
set_option maxHeartbeats 4000000 in
set_option maxRecDepth 100000 in
/-- A call. -/
theorem core_call (w0 : World) (hl : Lay11 w0) (b L : Nat) (nd : Nd) (ks : List Ex) (hk : nd.kind = 9) (hf : 1 ≤ nd.fn ∧ nd.fn ≤ 76) (hI : ∀ k ∈ ks, LayIs11 w0 b L k) : CoreIs w0 b L (.mk nd ks) := by
  intro v n acc w hn ht hL hlen
  obtain ⟨a, len, cap, rfl, hl1, hll, _, _⟩ := ht.un
  obtain rfl : len = ks.length := hl1.out
  have e : txE (.mk nd ks) = nameL nd.fn ++ [40] ++ argF false (ks.map fun k => (txE k, lv k.nd)) ++ [41] := by rw [txE_mk]; unfold nodeT; rw [if_neg (by omega), if_neg (by omega), if_pos hk]
  rw [e] at hlen ⊢
  simp only [List.length_append, List.length_cons, List.length_nil] at hlen
  have hK := hide ht.kidsAt
  have P0 := hide (Blk.new w (exC nd (.slice a ks.length cap)) 30)
  have L0 := hide (hL.alloc (exO nd (.slice a ks.length cap)))
  have HV := hide (levelOf_any nd (.slice a ks.length cap) (w.alloc (exO nd (.slice a ks.length cap))) (hl.keep L0.out.low) (fun e => by rw [hk] at e; cases e))
  have HN := hide (nameOf_any nd.fn hf)
  have hn' : ¬ lv nd < n := by have : n ≤ lv nd := hn; omega
  have K0 := hide (OK11.of_below (b := b) (step (Below.refl w.heap.size w) (exO nd (.slice a ks.length cap))))
  have hb0 : Hid (w.heap.size ≠ b) := hide (by have := hL.lt; omega)
  have c0 := (at14 nd (.slice a ks.length cap)).c0
  have c12 := (at14 nd (.slice a ks.length cap)).c12
  have c13 := (at14 nd (.slice a ks.length cap)).c13
  rw [hk] at c0
  replace hlen := hide hlen
  replace hI := hide hI
  generalize lv nd = ℓ at *
  generalize nameL nd.fn = U at *
  clear ht hL e hn hl1 hf
  go_enter Tryd.func31, Tryd.ntmps31
  go_wp2_with (first
    | (refine wpList_load_blk rfl 30 _ rfl _ rfl _ (by with_reducible exact P0.out) _ Tryd.underlying30 rfl (exC_info _ _) ?_)
    | (go_at_call 32; refine HV.out.mono ?_; rintro e w1 ⟨rfl, hb⟩; have P1 := hide (P0.out.keep hb); have L1 := hide (L0.out.keep hb); have K1 := hide (K0.out.trans (OK11.of_below hb)); have d0 := (P1.out.at' 0).trans c0; have d12 := (P1.out.at' 12).trans c12; clear hb)
    | (go_at_call 36; refine (HN.out _).mono ?_; rintro e w2 ⟨rfl, hb⟩; have P2 := hide (P1.out.keep hb); have L2 := hide (L1.out.keep hb); have K2 := hide (K1.out.trans (OK11.of_below hb)); clear hb d0 d12)
    | (go_at_call 35; refine (ws_any L2.out U (by have := hlen.out; omega)).mono ?_; rintro e w3 ⟨rfl, h1, h2⟩; have L3 := hide h1; have P3 := hide (OK11.blk h2 P2.out hb0.out tX_ne); have K3 := hide (K2.out.trans h2); clear h1 h2)
    | (have hq := L3; go_at_call 33; refine (wb_40 L3.out (by simp only [List.length_append]; have := hlen.out; omega)).mono ?_; rintro e w4 ⟨rfl, h1, h2⟩; clear hq; have L4 := hide h1; have P4 := hide (OK11.blk h2 P3.out hb0.out tX_ne); have K4 := hide (K3.out.trans h2); have d13 := (P4.out.at' 13).trans c13; clear h1 h2 L3))
  have hE0 : Hid (acc ++ (U ++ [40] ++ argF false (ks.map fun k => (txE k, lv k.nd))) = (acc ++ U ++ [40]) ++ argF (decide (0 < 0)) ((ks.drop 0).map fun k => (txE k, lv k.nd))) := hide (by simp)
  clear d13
  go_loopw [78] (fun i wr => ∃ (k : Nat) (ak : List UInt8), k ≤ ks.length ∧ i = .int .i64 k ∧ Hid (Lng w0 b L ak wr) ∧ Hid (OK11 b w wr) ∧ Hid (acc ++ (U ++ [40] ++ argF false (ks.map fun k => (txE k, lv k.nd))) = ak ++ argF (decide (0 < k)) ((ks.drop k).map fun k => (txE k, lv k.nd)))) (fun i _ => ks.length - (intOf i).toNat)
  case atStart => exact ⟨0, acc ++ U ++ [40], Nat.zero_le _, rfl, L4, K4, hE0⟩
  case round =>
    obtain ⟨k, ak, hkl, rfl, HL, HO, HE⟩ := hrel
    by_cases hlt : k < ks.length
    · have p0 : (k : Int) < (ks.length : Int) := by omega
      obtain ⟨g, o, rfl, hki, ka, kl, kc, tk, rk⟩ := hK.out.get hlt
      have hg : Hid (g < w0.heap.size) := hide (World.block_lt_of_cell? w0 ⟨g, _, none⟩ (rk 0 _ rfl))
      have R1 := hide (range_of_block rk (HL.out.low.block g hg.out))
      have hst := arg_step ks k hki (decide (0 < k))
      have hIk := hI.out _ (List.getElem_mem hki)
      generalize hkk : ks[k] = t at *
      have hHI := hide (fun acc' w' (h : Lng w0 b L acc' w') (hz : acc'.length + (frE 1 t).length < 70368744177664) => hIk (exV t.nd (.slice ka kl kc)) 1 acc' w' tk h hz)
      have PL := hide (HL.out.alloc (exO t.nd (.slice ka kl kc)))
      have PB := hide (Blk.new wr (exC t.nd (.slice ka kl kc)) 30)
      have PK := hide (HO.out.trans (OK11.of_below (b := b) (step (Below.refl wr.heap.size wr) (exO t.nd (.slice ka kl kc)))))
      have hbr : Hid (wr.heap.size ≠ b) := hide (by have := HL.out.lt; omega)
      have wk := IntWalk.wrap64_in ((k : Int) + 1) ⟨by omega, by have := hll.out; omega⟩
      rw [hst] at HE
      have hz : Hid (ak.length + ((if decide (0 < k) = true then [44] else ([] : List UInt8)).length + (frE 1 t).length) < 70368744177664) := hide (by
        have h1 := congrArg List.length HE.out
        have h2 := hlen.out
        simp only [List.length_append, List.length_cons, List.length_nil] at h1 h2 ⊢
        omega)
      have V0 := PL.out.var.one
      clear hst hIk tk rk
      by_cases h0 : k = 0
      · have hp : ¬ (0 : Int) < (k : Int) := by omega
        have hd0 : decide (0 < k) = false := decide_eq_false (by omega)
        rw [hd0] at hz HE
        replace h0 := hide h0
        clear hd0
        go_wp2_with (first
          | (refine wpList_load_at rfl 30 _ rfl _ _ rfl _ _ (by with_reducible exact R1.out) Tryd.underlying30 rfl (exC_info _ _) ?_)
          | (refine wpList_store_new rfl 30 _ _ rfl _ (exC t.nd (.slice ka kl kc)) _ rfl rfl rfl (exC_info _ _) (by rfl) (exC_one _ _ _ _) ?_)
          | (refine wpList_load_blk rfl 30 _ rfl _ rfl _ (by with_reducible exact PB.out) _ Tryd.underlying30 rfl (exC_info _ _) ?_)
          | (go_at_call 31; refine (hHI.out _ _ PL.out (by have := hz.out; simp at this; omega)).mono ?_; rintro e w6 ⟨rfl, h1, h2⟩; have L6 := hide h1; have K6 := hide (PK.out.trans h2); clear h1 h2))
        refine ⟨⟨k + 1, _, hlt, by first | rfl | (rw [wk]; rfl), L6, K6, hide (by rw [HE.out, decide_eq_true (Nat.succ_pos k)]; simp)⟩, ?_⟩
        first
          | exact meas_lt hlt
          | (rw [wk]; exact meas_lt hlt)
      · have hp : (0 : Int) < (k : Int) := by omega
        have hd0 : decide (0 < k) = true := decide_eq_true (by omega)
        rw [hd0] at hz HE
        replace h0 := hide h0
        clear hd0 V0
        go_wp2_with (first
          | (refine wpList_load_at rfl 30 _ rfl _ _ rfl _ _ (by with_reducible exact R1.out) Tryd.underlying30 rfl (exC_info _ _) ?_)
          | (refine wpList_store_new rfl 30 _ _ rfl _ (exC t.nd (.slice ka kl kc)) _ rfl rfl rfl (exC_info _ _) (by rfl) (exC_one _ _ _ _) ?_)
          | (go_at_call 33; refine (wb_44 PL.out (by have := hz.out; simp at this; omega)).mono ?_; rintro e w5 ⟨rfl, h1, h2⟩; have L5 := hide h1; have B5 := hide (OK11.blk h2 PB.out hbr.out tX_ne); have K5 := hide (PK.out.trans h2); have V5 := L5.out.var.one; clear h1 h2)
          | (refine wpList_load_blk rfl 30 _ rfl _ rfl _ (by with_reducible exact B5.out) _ Tryd.underlying30 rfl (exC_info _ _) ?_)
          | (go_at_call 31; refine (hHI.out _ _ L5.out (by rw [List.length_append]; have := hz.out; simp at this; simp; omega)).mono ?_; rintro e w6 ⟨rfl, h1, h2⟩; have L6 := hide h1; have K6 := hide (K5.out.trans h2); clear h1 h2))
        refine ⟨⟨k + 1, _, hlt, by first | rfl | (rw [wk]; rfl), L6, K6, hide (by rw [HE.out, decide_eq_true (Nat.succ_pos k)]; simp)⟩, ?_⟩
        first
          | exact meas_lt hlt
          | (rw [wk]; exact meas_lt hlt)
    · obtain rfl : k = ks.length := by omega
      rw [List.drop_length, List.map_nil, argF, List.append_nil] at HE
      have hz : Hid (ak.length < 70368744177664) := hide (by
        have h1 := congrArg List.length HE.out
        have h2 := hlen.out
        simp only [List.length_append, List.length_cons, List.length_nil] at h1 h2 ⊢
        omega)
      go_wp2_with (first
        | (go_at_call 33; refine (wb_41 HL.out hz.out).mono ?_; rintro e w7 ⟨rfl, h1, h2⟩; have L7 := hide h1; have K7 := hide (HO.out.trans h2); clear h1 h2))
      go_end0
      exact ⟨rfl, by have := L7.out; rw [← HE.out] at this; simpa using this, K7.out⟩
end Go.Proofs.YtbpogngnhhkjbaaDoor.T9
