/- quadrilleref11.text of operations of two and of percents. quadrilleref13.Info's names; quadrilleref11.text of calls. quadrilleref11.text of texts. quadrilleref11.text of percents. -/
import Derived.Test.YtbpogngnhhkjbaaDoorRtJ
import Derived.Test.YtbpogngnhhkjbaaDoorSmJ
import Derived.Test.YtbpogngnhhkjbaaDoorRInf9
import Derived.Test.YtbpogngnhhkjbaaDoorLayC11
namespace Go.Proofs.YtbpogngnhhkjbaaDoor.T9
open Go.RowKit Go.Sort
set_option linter.unusedVariables false

theorem tXu : (30 : TypeId) ≠ 5 := by decide
set_option maxHeartbeats 4000000 in
set_option maxRecDepth 100000 in
theorem rtx_8 (w0 : World) (nd : Nd) (k j : Ex) (hk : nd.kind = 8) (ho : 1 ≤ nd.op ∧ nd.op ≤ 12) (hI : FrIs w0 k) (hJ : FrIs w0 j) : TxIs w0 (.mk nd [k, j]) := by
  intro v b acc w ht hlow hown hlen
  obtain ⟨a, len, cap, rfl, hl1, _, _, _⟩ := ht.un
  obtain rfl : len = 2 := hl1.out
  have e : txE (.mk nd [k, j]) = frE (lv nd) k ++ sgB nd.op ++ frE (lv nd + 1) j := by rw [txE_mk]; unfold nodeT; rw [if_neg (by omega), if_pos hk]; rfl
  rw [e] at hlen ⊢
  simp only [List.length_append] at hlen
  obtain ⟨g, o, rfl, _, aa, kl, kc, tk, rk⟩ := ht.kidsAt.get (i := 0) (by omega)
  obtain ⟨g', o', hgo, _, ja, jl, jc, tj, rj⟩ := ht.kidsAt.get (i := 1) (by omega)
  obtain ⟨rfl, rfl⟩ : g' = g ∧ o' = o := by simp at hgo; exact ⟨hgo.1.symm, hgo.2.symm⟩
  have tk : Tree w0 (exV k.nd (.slice aa kl kc)) k := tk
  have rk : w0.rangeAt g' (o' + 0 * 14) (exC k.nd (.slice aa kl kc)).toList := rk
  have tj : Tree w0 (exV j.nd (.slice ja jl jc)) j := tj
  have rj : w0.rangeAt g' (o' + 1 * 14) (exC j.nd (.slice ja jl jc)).toList := rj
  rw [Nat.zero_mul, Nat.add_zero] at rk
  rw [Nat.one_mul] at rj
  have hg : Hid (g' < w0.heap.size) := hide (World.block_lt_of_cell? w0 ⟨g', _, none⟩ (rk 0 _ rfl))
  have P0 := hide (Blk.new w (exC nd (.slice (some ⟨g', o', none⟩) 2 cap)) 30)
  have W0 := hide (Gone.of_below (B := w0.heap.size) (v := b) (step (Below.refl w.heap.size w) (exO nd (.slice (some ⟨g', o', none⟩) 2 cap))) hlow.size)
  have O0 := hide (hown.alloc (exO nd (.slice (some ⟨g', o', none⟩) 2 cap)))
  have hB := hide hlow.size
  have HV := hide (rlevel_any nd (.slice (some ⟨g', o', none⟩) 2 cap) (w.alloc (exO nd (.slice (some ⟨g', o', none⟩) 2 cap))) (fun _ => ho))
  have HS := hide (rsign_any nd.op ho)
  have hU9 := hide (sgB_len1 ho)
  have HI := hide (fun b' acc' w' (h1 : Below w0.heap.size w0 w') (h2 : OwB w' w0.heap.size b' acc') (hz : acc'.length + (frE (lv nd) k).length < 1000000) => hI (exV k.nd (.slice aa kl kc)) b' (lv nd) acc' w' tk h1 h2 hz)
  have HJ := hide (fun b' acc' w' (h1 : Below w0.heap.size w0 w') (h2 : OwB w' w0.heap.size b' acc') (hz : acc'.length + (frE (lv nd + 1) j).length < 1000000) => hJ (exV j.nd (.slice ja jl jc)) b' (lv nd + 1) acc' w' tj h1 h2 hz)
  have hv5 : lv nd ≤ 8 := by unfold lv lvB; (repeat' split) <;> omega
  have wl := IntWalk.wrap64_in (lv nd + 1) ⟨by have := lv_pos nd; omega, by omega⟩
  have c0 := (at14 nd (.slice (some ⟨g', o', none⟩) 2 cap)).c0
  have c1 := (at14 nd (.slice (some ⟨g', o', none⟩) 2 cap)).c1
  have c13 := (at14 nd (.slice (some ⟨g', o', none⟩) 2 cap)).c13
  rw [hk] at c0
  replace hlen := hide hlen
  replace rk := hide rk
  replace rj := hide rj
  replace hlow := hide hlow
  generalize frE (lv nd) k = U at *
  generalize frE (lv nd + 1) j = V at *
  generalize lv nd = ℓ at *
  generalize sgB nd.op = S at *
  clear ht hown e hI hJ tk tj hl1 hgo ho hv5
  go_enter Tryd.func12, Tryd.ntmps12
  go_wp2_with (first
    | (refine wpList_load_blk rfl 30 _ rfl _ rfl _ (by with_reducible exact P0.out) _ Tryd.underlying30 rfl (exC_info _ _) ?_)
    | (refine wpList_load_at rfl 30 _ rfl _ _ rfl _ _ (by with_reducible exact R4.out) Tryd.underlying30 rfl (exC_info _ _) ?_)
    | (refine wpList_load_at rfl 30 _ rfl _ _ rfl _ _ (by with_reducible exact R1.out) Tryd.underlying30 rfl (exC_info _ _) ?_)
    | (go_at_call 24; refine HV.out.mono ?_; rintro e w1 ⟨rfl, hb⟩; have O1 := hide (O0.out.keep hb); have W1 := hide (W0.out.trans (Gone.of_below hb (Nat.le_trans hB.out W0.out.low.size))); have P1 := hide (P0.out.keep hb); have d13 := (P1.out.at' 13).trans c13; have R1 := hide (range_of_block rk.out ((hlow.out.trans W1.out.low).block g' hg.out)); clear hb)
    | (have hq := W4; go_at_call 23; refine (HJ.out _ _ _ (hlow.out.trans W4.out.low) O4.out (by simp only [List.length_append]; have := hlen.out; omega)).mono ?_; rintro e w5 ⟨b5, rfl, h1, h2⟩; clear hq; have O5 := hide h1; have W5 := hide (W4.out.trans h2); clear h1 h2)
    | (have hq := W1; go_at_call 23; refine (HI.out _ _ _ (hlow.out.trans W1.out.low) O1.out (by have := hlen.out; omega)).mono ?_; rintro e w2 ⟨b2, rfl, h1, h2⟩; clear hq d13; have O2 := hide h1; have W2 := hide (W1.out.trans h2); have P2 := hide (h2.blk P1.out tXu); have f1 := (P2.out.at' 1).trans c1; clear h1 h2)
    | (go_at_call 25; refine (HS.out _).mono ?_; rintro e w3 ⟨rfl, hb⟩; have O3 := hide (O2.out.keep hb); have W3 := hide (W2.out.trans (Gone.of_below hb (Nat.le_trans hB.out W2.out.low.size))); have P3 := hide (P2.out.keep hb); clear hb f1)
    | (refine wpList_appS rfl _ _ rfl rfl S rfl O3.out (by simp only [List.length_append]; have := hlen.out; omega) (Nat.le_trans hB.out W3.out.low.size) hU9.out ?_; intro b4 w4 h1 h2; have O4 := hide h1; have W4 := hide (W3.out.trans h2); have P4 := hide (h2.blk P3.out tXu); have d13 := (P4.out.at' 13).trans c13; have R4 := hide (range_of_block rj.out ((hlow.out.trans W4.out.low).block g' hg.out)); clear h1 h2))
  go_ret
  exact ⟨b5, rfl, by have := O5.out; simpa only [List.append_assoc] using this, W5.out⟩
end Go.Proofs.YtbpogngnhhkjbaaDoor.T9
namespace Go.Proofs.YtbpogngnhhkjbaaDoor.T9
open Go.RowKit Go.Sort
set_option linter.unusedVariables false

theorem tXu9 : (30 : TypeId) ≠ 5 := by decide
theorem tFu9 : (50 : TypeId) ≠ 5 := by decide
theorem name_tab (k : Nat) (hk : k < 76) : (fnRows[k]'(by rw [fnRows_len]; exact hk)).1 = (tab[k]'(by rw [tab_len]; exact hk)).1 := by
  have h : fnRows.map (·.1) = tab.map (·.1) := by kernel_rfl
  have h2 := congrArg (·[k]?) h
  simp only [List.getElem?_map] at h2
  rw [List.getElem?_eq_getElem (by rw [fnRows_len]; exact hk), List.getElem?_eq_getElem (by rw [tab_len]; exact hk)] at h2
  simpa using h2
set_option maxHeartbeats 1000000 in
set_option maxRecDepth 100000 in
theorem rname_any (f : Int) (h : 1 ≤ f ∧ f ≤ 76) (w : World) : Calls Tryd.prog 26 #[.int .i64 f] w fun e w' => (∃ c mn mx, e = .returned (.tuple #[fnV (ba (nameL f)) c mn mx, .int .i64 0])) ∧ Below w.heap.size w w' := by
  obtain ⟨k, hk, rfl, hn⟩ := name_row h
  rw [hn, ba_of, ← name_tab k hk]
  have HR := hide (rtabs_any)
  have HC := fun (w : World) (B : Nat) (h : Blk w B fnC 50) => row_cells h k hk
  generalize fnRows[k] = r at *
  obtain ⟨n, c, mn, mx⟩ := r
  have p1 : ¬ ((k : Int) + 1 < 1) := by omega
  have p2 : ¬ (76 < (k : Int) + 1) := by omega
  have p3 : (k : Int) + 1 - 1 = k := by omega
  have p4 := IntWalk.wrap64_in ((k : Int)) ⟨by omega, by omega⟩
  have p5 : (k : Int) < 76 := by omega
  replace HC := hide HC
  clear hn h
  go_enter Tryd.func26, Tryd.ntmps26
  go_wp2_with (go_at_call 45; refine (HR.out _).mono ?_; rintro e w1 ⟨rfl, rfl⟩; have Z := HC.out _ _ (Blk.new1 w (.cells #[.string no, .int .i64 0, .int .i64 0, .int .i64 0] 50) fnC 50); have z0 := Z 0 (by omega); have z1 := Z 1 (by omega); have z2 := Z 2 (by omega); have z3 := Z 3 (by omega); simp at z0 z1 z2 z3; clear Z)
  refine bodyPost_ret (v := .tuple #[fnV n c mn mx, .int .i64 0]) (by simp [results, Tryd.results26, go_sem]; try rfl) rfl ?_
  exact ⟨⟨c, mn, mx, rfl⟩, by go_grown⟩
set_option maxHeartbeats 4000000 in
set_option maxRecDepth 100000 in
theorem rtx_9 (w0 : World) (nd : Nd) (ks : List Ex) (hk : nd.kind = 9) (hf : 1 ≤ nd.fn ∧ nd.fn ≤ 76) (hI : ∀ k ∈ ks, TxIs w0 k) : TxIs w0 (.mk nd ks) := by
  intro v b acc w ht hlow hown hlen
  obtain ⟨a, len, cap, rfl, hl1, hll, _, _⟩ := ht.un
  obtain rfl : len = ks.length := hl1.out
  have e : txE (.mk nd ks) = nameL nd.fn ++ [40] ++ argF false (ks.map fun k => (txE k, lv k.nd)) ++ [41] := by rw [txE_mk]; unfold nodeT; rw [if_neg (by omega), if_neg (by omega), if_pos hk]
  rw [e] at hlen ⊢
  simp only [List.length_append, List.length_cons, List.length_nil] at hlen
  have hK := hide ht.kidsAt
  have P0 := hide (Blk.new w (exC nd (.slice a ks.length cap)) 30)
  have W0 := hide (Gone.of_below (B := w0.heap.size) (v := b) (step (Below.refl w.heap.size w) (exO nd (.slice a ks.length cap))) hlow.size)
  have O0 := hide (hown.alloc (exO nd (.slice a ks.length cap)))
  have hB := hide hlow.size
  have HN := hide (rname_any nd.fn hf)
  have hU9 := hide (nameL_len1 hf)
  have c0 := (at14 nd (.slice a ks.length cap)).c0
  have c12 := (at14 nd (.slice a ks.length cap)).c12
  have c13 := (at14 nd (.slice a ks.length cap)).c13
  rw [hk] at c0
  replace hlen := hide hlen
  replace hI := hide hI
  replace hlow := hide hlow
  generalize nameL nd.fn = U at *
  clear ht hown e hl1 hf
  go_enter Tryd.func12, Tryd.ntmps12
  go_wp2_with (first
    | (go_at_call 26; refine (HN.out _).mono ?_; rintro e w1 ⟨⟨cc, mn, mx, rfl⟩, hb⟩; have O1 := hide ((O0.out.keep hb).alloc (.cells #[.string (ba U), .int .i64 cc, .int .i64 mn, .int .i64 mx] 50)); have W1 := hide ((W0.out.trans (Gone.of_below hb (Nat.le_trans hB.out W0.out.low.size))).alloc hB.out (.cells #[.string (ba U), .int .i64 cc, .int .i64 mn, .int .i64 mx] 50)); have P1 := hide ((P0.out.keep hb).alloc (.cells #[.string (ba U), .int .i64 cc, .int .i64 mn, .int .i64 mx] 50)); clear hb)
    | (refine wpList_appK 40 40 rfl rfl _ _ rfl rfl rfl (O2.out.alloc _) (OwB.lit 40) (by simp only [List.length_append]; have := hlen.out; omega) (Nat.le_trans hB.out (W2.out.alloc hB.out _).low.size) ?_; intro b3 w3 h1 h2; have O3 := hide h1; have W3 := hide ((W2.out.alloc hB.out _).trans h2); have P3 := hide (h2.blk (P2.out.alloc _) tXu9); clear h1 h2)
    | (refine wpList_appS rfl _ _ rfl rfl U rfl O1.out (by have := hlen.out; omega) (Nat.le_trans hB.out W1.out.low.size) hU9.out ?_; intro b2 w2 h1 h2; have O2 := hide h1; have W2 := hide (W1.out.trans h2); have P2 := hide (h2.blk P1.out tXu9); clear h1 h2))
  have hE0 : Hid (acc ++ (U ++ [40] ++ argF false (ks.map fun k => (txE k, lv k.nd))) = (acc ++ U ++ [40]) ++ argF (decide (0 < 0)) ((ks.drop 0).map fun k => (txE k, lv k.nd))) := hide (by simp)
  go_loopw [0, 15] (fun bv i wr => ∃ (k : Nat) (ak : List UInt8), k ≤ ks.length ∧ i = .int .i64 k ∧ Hid (OwB wr w0.heap.size bv ak) ∧ Hid (Gone w0.heap.size w wr b bv) ∧ Hid (Blk wr w.heap.size (exC nd (.slice a ks.length cap)) 30) ∧ Hid (acc ++ (U ++ [40] ++ argF false (ks.map fun k => (txE k, lv k.nd))) = ak ++ argF (decide (0 < k)) ((ks.drop k).map fun k => (txE k, lv k.nd)))) (fun _ i _ => ks.length - (intOf i).toNat)
  case atStart => exact ⟨0, acc ++ U ++ [40], Nat.zero_le _, rfl, O3, W3, P3, hE0⟩
  case round =>
    obtain ⟨k, ak, hkl, rfl, HO, HW, HP, HE⟩ := hrel
    have d13 := (HP.out.at' 13).trans c13
    by_cases hlt : k < ks.length
    · have p0 : (k : Int) < (ks.length : Int) := by omega
      obtain ⟨g, o, rfl, hki, ka, kl, kc, tk, rk⟩ := hK.out.get hlt
      have hg : Hid (g < w0.heap.size) := hide (World.block_lt_of_cell? w0 ⟨g, _, none⟩ (rk 0 _ rfl))
      have hst := arg_step ks k hki (decide (0 < k))
      have hIk := hI.out _ (List.getElem_mem hki)
      generalize hkk : ks[k] = t at *
      rw [show frE 1 t = txE t from frE_core (lv_pos _)] at hst
      have hHI := hide (fun b' acc' w' (h1 : Below w0.heap.size w0 w') (h2 : OwB w' w0.heap.size b' acc') (hz : acc'.length + (txE t).length < 1000000) => hIk (exV t.nd (.slice ka kl kc)) b' acc' w' tk h1 h2 hz)
      have R1 := hide (range_of_block rk ((hlow.out.trans HW.out.low).block g hg.out))
      have RF := hide (fun w' (h : Below w0.heap.size w0 w') => range_of_block rk (h.block g hg.out))
      have wk := IntWalk.wrap64_in ((k : Int) + 1) ⟨by omega, by have := hll.out; omega⟩
      rw [hst] at HE
      have hz : Hid (ak.length + ((if decide (0 < k) = true then [44] else ([] : List UInt8)).length + (txE t).length) < 1000000) := hide (by
        have h1 := congrArg List.length HE.out
        have h2 := hlen.out
        simp only [List.length_append, List.length_cons, List.length_nil] at h1 h2 ⊢
        omega)
      clear hst hIk tk rk
      by_cases h0 : k = 0
      · have hp : ¬ (0 : Int) < (k : Int) := by omega
        have hd0 : decide (0 < k) = false := decide_eq_false (by omega)
        rw [hd0] at hz HE
        replace h0 := hide h0
        clear hd0
        go_wp2_with (first
          | (refine wpList_load_at rfl 30 _ rfl _ _ rfl _ _ (by with_reducible exact R1.out) Tryd.underlying30 rfl (exC_info _ _) ?_)
          | (go_at_call 12; refine (hHI.out _ _ _ (hlow.out.trans HW.out.low) HO.out (by have := hz.out; simp at this; omega)).mono ?_; rintro e w6 ⟨b6, rfl, h1, h2⟩; have O6 := hide h1; have W6 := hide (HW.out.trans h2); have P6 := hide (h2.blk HP.out tXu9); clear h1 h2))
        refine ⟨⟨k + 1, _, hlt, by first | rfl | (rw [wk]; rfl), O6, W6, P6, hide (by rw [HE.out, decide_eq_true (Nat.succ_pos k)]; simp)⟩, ?_⟩
        first
          | exact meas_lt hlt
          | (rw [wk]; exact meas_lt hlt)
      · have hp : (0 : Int) < (k : Int) := by omega
        have hd0 : decide (0 < k) = true := decide_eq_true (by omega)
        rw [hd0] at hz HE
        replace h0 := hide h0
        clear hd0
        go_wp2_with (first
          | (refine wpList_load_at rfl 30 _ rfl _ _ rfl _ _ (by with_reducible exact R5.out) Tryd.underlying30 rfl (exC_info _ _) ?_)
          | (refine wpList_appK 44 44 rfl rfl _ _ rfl rfl rfl (HO.out.alloc _) (OwB.lit 44) (by have := hz.out; omega) (Nat.le_trans hB.out (HW.out.alloc hB.out _).low.size) ?_; intro b5 w5 h1 h2; have O5 := hide h1; have W5 := hide ((HW.out.alloc hB.out _).trans h2); have P5 := hide (h2.blk (HP.out.alloc _) tXu9); have e13 := (P5.out.at' 13).trans c13; have R5 := hide (RF.out _ (hlow.out.trans W5.out.low)); clear h1 h2)
          | (go_at_call 12; refine (hHI.out _ _ _ (hlow.out.trans W5.out.low) O5.out (by rw [List.length_append]; have := hz.out; simp at this; simp; omega)).mono ?_; rintro e w6 ⟨b6, rfl, h1, h2⟩; have O6 := hide h1; have W6 := hide (W5.out.trans h2); have P6 := hide (h2.blk P5.out tXu9); clear h1 h2))
        refine ⟨⟨k + 1, _, hlt, by first | rfl | (rw [wk]; rfl), O6, W6, P6, hide (by rw [HE.out, decide_eq_true (Nat.succ_pos k)]; simp)⟩, ?_⟩
        first
          | exact meas_lt hlt
          | (rw [wk]; exact meas_lt hlt)
    · obtain rfl : k = ks.length := by omega
      rw [List.drop_length, List.map_nil, argF, List.append_nil] at HE
      have hz : Hid (ak.length < 1000000) := hide (by
        have h1 := congrArg List.length HE.out
        have h2 := hlen.out
        simp only [List.length_append, List.length_cons, List.length_nil] at h1 h2 ⊢
        omega)
      go_wp2_with (refine wpList_appK 41 41 rfl rfl _ _ rfl rfl rfl (HO.out.alloc _) (OwB.lit 41) hz.out (Nat.le_trans hB.out (HW.out.alloc hB.out _).low.size) ?_; intro b7 w7 h1 h2; have O7 := hide h1; have W7 := hide ((HW.out.alloc hB.out _).trans h2); clear h1 h2)
      go_ret
      exact ⟨b7, rfl, by have := O7.out; rw [← HE.out] at this; simpa using this, W7.out⟩
end Go.Proofs.YtbpogngnhhkjbaaDoor.T9
namespace Go.Proofs.YtbpogngnhhkjbaaDoor.T9
open Go.RowKit Go.Sort
set_option linter.unusedVariables false

theorem tXu2 : (30 : TypeId) ≠ 5 := by decide
theorem lt_two {l : List UInt8} (h : l.length + 1 < 1000000) : (l ++ [34]).length < 1000000 := by simp; omega
theorem qt_snoc (s : ByteArray) (k : Nat) (h : k < s.size) : qt (s.data.toList.take (k + 1)) = qt (s.data.toList.take k) ++ (if s[k] = 34 then [34, 34] else [s[k]]) := by
  rw [take_snoc s k h]
  simp [qt]
set_option maxHeartbeats 4000000 in
set_option maxRecDepth 100000 in
theorem rtx_2 (w0 : World) (nd : Nd) (ks : List Ex) (hk : nd.kind = 2) (hz : nd.text.size ≤ 16384) : TxIs w0 (.mk nd ks) := by
  intro v b acc w ht hlow hown hlen
  obtain ⟨a, len, cap, rfl, _, _, _, _⟩ := ht.un
  have e : txE (.mk nd ks) = leafL nd := by rw [txE_mk]; unfold nodeT; rw [if_neg (by omega), if_neg (by omega), if_neg (by omega)]
  have e2 : leafL nd = [34] ++ qt nd.text.data.toList ++ [34] := by unfold leafL; simp only [hk]; rfl
  rw [e, e2] at hlen ⊢
  simp only [List.length_append, List.length_cons, List.length_nil] at hlen
  have P0 := hide (Blk.new w (exC nd (.slice a len cap)) 30)
  have W0 := hide (Gone.of_below (B := w0.heap.size) (v := b) (step (Below.refl w.heap.size w) (exO nd (.slice a len cap))) hlow.size)
  have O0 := hide (hown.alloc (exO nd (.slice a len cap)))
  have hB := hide hlow.size
  have c0 := (at14 nd (.slice a len cap)).c0
  have c3 := (at14 nd (.slice a len cap)).c3
  rw [hk] at c0
  have hs := Lib.size_eq nd.text
  obtain ⟨s, hs0⟩ : ∃ s, nd.text = s := ⟨_, rfl⟩
  rw [hs0] at c3 hlen hz hs ⊢
  have hql := hide (fun k => show (qt (s.data.toList.take k)).length ≤ (qt s.data.toList).length by
    conv => rhs; rw [← List.take_append_drop k s.data.toList]
    unfold qt
    rw [List.flatMap_append, List.length_append]
    omega)
  replace hlen := hide hlen
  replace hz := hide hz
  replace hlow := hide hlow
  clear ht hown e e2 hs hs0
  go_enter Tryd.func12, Tryd.ntmps12
  go_wp2_with (refine wpList_appK 34 34 rfl rfl _ _ rfl rfl rfl (O0.out.alloc _) (Blk.new1 w (exO nd (.slice a len cap)) #[.int .u8 34] 5).one (by have := hlen.out; omega) (Nat.le_trans hB.out (W0.out.alloc hB.out _).low.size) ?_; intro b1 w1 h1 h2; have O1 := hide h1; have W1 := hide ((W0.out.alloc hB.out _).trans h2); have P1 := hide (h2.blk (P0.out.alloc _) tXu2); clear h1 h2)
  go_loopw [0, 5] (fun bv i wr => ∃ (k : Nat), k ≤ s.size ∧ i = .int .i64 k ∧ Hid (OwB wr w0.heap.size bv (acc ++ [34] ++ qt (s.data.toList.take k))) ∧ Hid (Gone w0.heap.size w wr b bv) ∧ Hid (Blk wr w.heap.size (exC nd (.slice a len cap)) 30)) (fun _ i _ => s.size - (intOf i).toNat)
  case atStart => exact ⟨0, Nat.zero_le _, rfl, hide (by have := O1.out; simpa [qt] using this), W1, P1⟩
  case round =>
    obtain ⟨k, hkl, rfl, HO, HW, HP⟩ := hrel
    have d3 := (HP.out.at' 3).trans c3
    by_cases hlt : k < s.size
    · have p0 : (k : Int) < (s.size : Int) := by omega
      have wk := IntWalk.wrap64_in ((k : Int) + 1) ⟨by omega, by have := hz.out; omega⟩
      have hq := hide (qt_snoc s k hlt)
      have hl2 := hide (show (acc ++ [34] ++ qt (s.data.toList.take k)).length + 1 < 1000000 by have := hlen.out; have := hql.out k; simp only [List.length_append, List.length_cons, List.length_nil]; omega)
      have hl3 := hide (lt_two hl2.out)
      by_cases hc : s[k] = 34
      · have hb : ((s[k].toNat : Int) == 34) = true := by rw [hc]; rfl
        rw [if_pos hc] at hq
        replace hc := hide hc
        go_wp2_with (first
          | (refine wpList_appK 34 _ (by rw [hc.out]) rfl _ _ rfl rfl rfl (O3.out.alloc _) (OwB.lit _) hl3.out (Nat.le_trans hB.out (W3.out.alloc hB.out _).low.size) ?_; intro b4 w4 h1 h2; have O4 := hide h1; have W4 := hide ((W3.out.alloc hB.out _).trans h2); have P4 := hide (h2.blk (P3.out.alloc _) tXu2); clear h1 h2)
          | (refine wpList_appK 34 34 rfl rfl _ _ rfl rfl rfl (HO.out.alloc _) (OwB.lit 34) (Nat.lt_of_succ_lt hl2.out) (Nat.le_trans hB.out (HW.out.alloc hB.out _).low.size) ?_; intro b3 w3 h1 h2; have O3 := hide h1; have W3 := hide ((HW.out.alloc hB.out _).trans h2); have P3 := hide (h2.blk (HP.out.alloc _) tXu2); have f3 := (P3.out.at' 3).trans c3; clear h1 h2))
        refine ⟨⟨k + 1, hlt, by first | rfl | (rw [wk]; rfl), hide (by rw [hq.out]; have := O4.out; simpa using this), W4, P4⟩, ?_⟩
        first
          | exact meas_lt hlt
          | (rw [wk]; exact meas_lt hlt)
      · have hb : ((s[k].toNat : Int) == 34) = false := by
          rw [beq_eq_false_iff_ne]
          intro e
          exact hc (UInt8.toNat_inj.1 (by show s[k].toNat = 34; omega))
        rw [if_neg hc] at hq
        replace hc := hide hc
        go_wp2_with (first
          | (refine wpList_appK s[k] _ rfl rfl _ _ rfl rfl rfl (HO.out.alloc _) (OwB.lit _) (Nat.lt_of_succ_lt hl2.out) (Nat.le_trans hB.out (HW.out.alloc hB.out _).low.size) ?_; intro b4 w4 h1 h2; have O4 := hide h1; have W4 := hide ((HW.out.alloc hB.out _).trans h2); have P4 := hide (h2.blk (HP.out.alloc _) tXu2); clear h1 h2))
        refine ⟨⟨k + 1, hlt, by first | rfl | (rw [wk]; rfl), hide (by rw [hq.out]; have := O4.out; simpa using this), W4, P4⟩, ?_⟩
        first
          | exact meas_lt hlt
          | (rw [wk]; exact meas_lt hlt)
    · obtain rfl : k = s.size := by omega
      rw [take_all s s.size (Nat.le_refl _)] at HO
      go_wp2_with (refine wpList_appK 34 34 rfl rfl _ _ rfl rfl rfl (HO.out.alloc _) (OwB.lit 34) (by have := hlen.out; simp only [List.length_append, List.length_cons, List.length_nil]; omega) (Nat.le_trans hB.out (HW.out.alloc hB.out _).low.size) ?_; intro b7 w7 h1 h2; have O7 := hide h1; have W7 := hide ((HW.out.alloc hB.out _).trans h2); clear h1 h2)
      go_ret
      exact ⟨b7, rfl, by have := O7.out; simpa using this, W7.out⟩
end Go.Proofs.YtbpogngnhhkjbaaDoor.T9
namespace Go.Proofs.YtbpogngnhhkjbaaDoor.T9
open Go.RowKit Go.Sort
set_option linter.unusedVariables false

set_option maxHeartbeats 4000000 in
set_option maxRecDepth 100000 in
theorem rtx_73 (w0 : World) (nd : Nd) (k : Ex) (hk : nd.kind = 7) (ho : nd.op = 3) (hI : FrIs w0 k) : TxIs w0 (.mk nd [k]) := by
  intro v b acc w ht hlow hown hlen
  obtain ⟨a, len, cap, rfl, hl1, _, _, _⟩ := ht.un
  obtain rfl : len = 1 := hl1.out
  have hv : lv nd = 7 := by unfold lv; rw [if_neg (by omega), if_pos hk, if_pos ho]
  have e : txE (.mk nd [k]) = frE 7 k ++ [37] := by rw [txE_mk]; unfold nodeT; rw [if_pos hk, hv, ho]; rfl
  rw [e] at hlen ⊢
  simp only [List.length_append, List.length_cons, List.length_nil] at hlen
  obtain ⟨g, o, rfl, _, aa, kl, kc, tk, rk⟩ := ht.kidsAt.get (i := 0) (by omega)
  have tk : Tree w0 (exV k.nd (.slice aa kl kc)) k := tk
  have rk : w0.rangeAt g (o + 0 * 14) (exC k.nd (.slice aa kl kc)).toList := rk
  rw [Nat.zero_mul, Nat.add_zero] at rk
  have hg : Hid (g < w0.heap.size) := hide (World.block_lt_of_cell? w0 ⟨g, _, none⟩ (rk 0 _ rfl))
  have P0 := hide (Blk.new w (exC nd (.slice (some ⟨g, o, none⟩) 1 cap)) 30)
  have W0 := hide (Gone.of_below (B := w0.heap.size) (v := b) (step (Below.refl w.heap.size w) (exO nd (.slice (some ⟨g, o, none⟩) 1 cap))) hlow.size)
  have O0 := hide (hown.alloc (exO nd (.slice (some ⟨g, o, none⟩) 1 cap)))
  have hB := hide hlow.size
  have HI := hide (fun b' acc' w' (h1 : Below w0.heap.size w0 w') (h2 : OwB w' w0.heap.size b' acc') (hz : acc'.length + (frE 7 k).length < 1000000) => hI (exV k.nd (.slice aa kl kc)) b' 7 acc' w' tk h1 h2 hz)
  have c0 := (at14 nd (.slice (some ⟨g, o, none⟩) 1 cap)).c0
  have c1 := (at14 nd (.slice (some ⟨g, o, none⟩) 1 cap)).c1
  have c13 := (at14 nd (.slice (some ⟨g, o, none⟩) 1 cap)).c13
  rw [hk] at c0
  rw [ho] at c1
  have R0 := hide (range_of_block rk ((hlow.trans W0.out.low).block g hg.out))
  replace hlen := hide hlen
  replace hlow := hide hlow
  generalize frE 7 k = U at *
  clear ht hown e hI tk hl1 rk hv
  go_enter Tryd.func12, Tryd.ntmps12
  go_wp2_with (first
    | (refine wpList_load_at rfl 30 _ rfl _ _ rfl _ _ (by with_reducible exact R0.out) Tryd.underlying30 rfl (exC_info _ _) ?_)
    | (go_at_call 23; refine (HI.out _ _ _ (hlow.out.trans W0.out.low) O0.out (by have := hlen.out; omega)).mono ?_; rintro e w2 ⟨b2, rfl, h1, h2⟩; have O2 := hide h1; have W2 := hide (W0.out.trans h2); clear h1 h2)
    | (refine wpList_appK 37 37 rfl rfl _ _ rfl rfl rfl (O2.out.alloc _) (OwB.lit 37) (by simp only [List.length_append]; have := hlen.out; omega) (Nat.le_trans hB.out (W2.out.alloc hB.out _).low.size) ?_; intro b7 w7 h1 h2; have O7 := hide h1; have W7 := hide ((W2.out.alloc hB.out _).trans h2); clear h1 h2))
  go_ret
  exact ⟨b7, rfl, by have := O7.out; simpa using this, W7.out⟩
end Go.Proofs.YtbpogngnhhkjbaaDoor.T9
