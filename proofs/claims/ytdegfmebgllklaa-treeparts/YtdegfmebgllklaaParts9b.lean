/- TreeParts: a tree that may be. -/
import Derived.Test.YtdegfmebgllklaaParts9a
namespace Go.Proofs.Ytdegfmebgllklaa
open Go.RowKit Go.Sort
set_option linter.unusedVariables false

set_option maxHeartbeats 2000000 in
set_option maxRecDepth 100000 in
theorem parts_yes (nd : Nd) (ks : List Ex) (v : Value) (w : World) (ht : Tree w v (.mk nd ks)) (hf : fitB (.mk nd ks) = true) (ha : allE (.mk nd ks) = true) (hk2 : ¬ (nd.kind = 2)) (h5 : ¬ nd.kind = 5 ∧ ¬ nd.kind = 6) :
    Calls Try.prog 6 #[v] w fun e w' => e = .returned (.bool true) ∧ Below w.heap.size w w' := by
  obtain ⟨a, len, cap, rfl, hln, _, _, _⟩ := ht.un
  have hK := hide ht.kidsAt
  have A := at14 nd (.slice a len cap)
  have P0 := hide (Blk.new w (exC nd (.slice a len cap)) 29)
  have B0 := hide (step (Below.refl w.heap.size w) (exO nd (.slice a len cap)))
  have HG := hide (begun9 (w.alloc (exO nd (.slice a len cap))))
  have H1 := hide (fun w' (h : Below w.heap.size w w') => size_any (.mk nd ks) (exV nd (.slice a len cap)) w' (ht.step h))
  have H2 := hide (fun w' (h : Below w.heap.size w w') => may_any (.mk nd ks) (exV nd (.slice a len cap)) w' (ht.step h))
  have H3 := hide (fun w' (h : Below w.heap.size w w') => reads_any (.mk nd ks) (exV nd (.slice a len cap)) w' (ht.step h))
  have hnf := of_decide_eq_true hf
  rw [nodesE, depthE, bytesE] at hnf
  have HK1 := hide (fun (k : Ex) (hk : k ∈ ks) v w' (h : Tree w' v k) => size_any k v w' h)
  have hfk := hide (fun (k : Ex) (hk : k ∈ ks) => sizeR_fit (fit_kid hf hk))
  simp only [sizeR_fit hf, mayR_ok hf ha, nodesE, depthE, bytesE, hk2, if_false, Nat.zero_add] at H1 H2 hnf
  obtain ⟨X, hX⟩ : ∃ X : Int, ((1 + nodesL ks : Nat) : Int) = X := ⟨_, rfl⟩
  obtain ⟨Y, hY⟩ : ∃ Y : Int, ((1 + depthL ks : Nat) : Int) = Y := ⟨_, rfl⟩
  obtain ⟨Z, hZ⟩ : ∃ Z : Int, ((0 + bytesL ks : Nat) : Int) = Z := ⟨_, rfl⟩
  rw [hX, hY, show ((bytesL ks : Nat) : Int) = Z by rw [← hZ]; simp] at H1
  have hX5 : ¬ (512 < X) := by omega
  replace hX := hide hX
  replace hY := hide hY
  replace hZ := hide hZ
  have hmr := hide (mayR_ok hf ha)
  have e2 : (nd.kind == 2) = false := by simp [hk2]
  have c0 := A.c0
  have c3 := A.c3
  have c13 := A.c13
  replace hnf := hide hnf
  replace hln := hide hln.out
  clear A
  have e5 : (nd.kind == 5) = false := by simp [h5]
  have e6 : (nd.kind == 6) = false := by simp [h5]
  have hrd : Hid (readsE (.mk nd ks) = arOf nd ++ readsL ks) := hide (by rw [readsE])
  have hao : Hid ((arOf nd).length = 0) := hide (by unfold arOf; rw [if_neg h5.1, if_neg h5.2]; rfl)
  have hrl : Hid ((readsE (.mk nd ks)).length ≤ 512) := hide (by have := readsE_len (.mk nd ks); rw [nodesE] at this; have := hnf.out.1; omega)
  have hak : Hid (∀ k ∈ ks, mayR k = 0) := hide (fun k hk => mayR_ok (fit_kid hf hk) (all_kid (by rw [allE, Bool.and_eq_true] at ha; exact ha.2) hk))
  replace ht := hide ht
  clear hf ha hk2 h5
  go_enter Try.func6, Try.ntmps6
  try simp only [List.append]
  go_wp2_with (first
    | (go_at_call 9; refine HG.out.mono ?_; rintro e w0 ⟨rfl, hb⟩; have Q0 := hide (P0.out.keep hb); have b0 := hide (next B0.out hb); clear hb)
    | (refine wpList_load_blk rfl 29 _ rfl _ rfl _ (by with_reducible exact Q0.out) _ Try.underlying29 rfl (exC_info _ _) ?_)
    | (go_at_call 18; refine (H1.out _ b0.out).mono ?_; rintro e w1 ⟨rfl, hb⟩; have Q1 := hide (Q0.out.keep hb); have b1 := hide (next b0.out hb); clear hb)
    | (refine wpList_load_blk rfl 29 _ rfl _ rfl _ (by with_reducible exact Q1.out) _ Try.underlying29 rfl (exC_info _ _) ?_)
    | (go_at_call 17; refine (H2.out _ b1.out).mono ?_; rintro e w2 ⟨rfl, hb⟩; have Q2 := hide (Q1.out.keep hb); have b2 := hide (next b1.out hb); have x0 := (Q2.out.at' 0).trans c0; have x3 := (Q2.out.at' 3).trans c3; clear hb)
    | (refine wpList_load_blk rfl 29 _ rfl _ rfl _ (by with_reducible exact Q2.out) _ Try.underlying29 rfl (exC_info _ _) ?_))
  refine (H3.out _ b2.out).mono ?_
  rintro e w3 hr
  obtain ⟨la, ll, lc, rfl, hrow, hb⟩ := reads_yes hr hmr.out
  have Q3 := hide (Q2.out.keep hb)
  have b3 := hide (next b2.out hb)
  have y0 := (Q3.out.at' 0).trans c0
  clear hb hr x0 x3 c3 e2 hX5 H1 H2 H3 HG
  obtain ⟨hAr, hlc⟩ := hrow.areas (by have := hrl.out; omega)
  have hll := hide hAr.lq
  replace hAr := hide hAr
  replace hlc := hide hlc
  replace hrow := hide hrow
  go_wp2_with fail
  have hsh : Hid ((la = none ∧ ll = 0 ∧ lc = 0) ∨ ∃ g, la = some ⟨g, 0, none⟩) := hide (by
    rcases hrow.out.2 with ⟨h, _⟩ | ⟨g, cap', cur, h, _⟩
    · simp only [Value.slice.injEq] at h; exact .inl h
    · simp only [Value.slice.injEq] at h; exact .inr ⟨g, h.1⟩)
  go_loopw [7, 8, 9, 12, 13] (fun n d b at0 i wr => ∃ (k T : Nat) (N D B : Int), k ≤ len ∧ n = .int .i64 N ∧ d = .int .i64 D ∧ b = .int .i64 B ∧ at0 = .int .i64 (T : Int) ∧ i = .int .i64 k ∧ Hid (N = ((1 + nodesL (ks.take k) : Nat) : Int) ∧ D = ((depthL (ks.take k) : Nat) : Int) ∧ B = ((0 + bytesL (ks.take k) : Nat) : Int)) ∧ Hid (T = (arOf nd).length + (readsL (ks.take k)).length) ∧ Hid (Below w3.heap.size w3 wr)) (fun _ _ _ _ i _ => len - (intOf i).toNat)
  case atStart => exact ⟨0, 0, _, _, _, Nat.zero_le _, rfl, rfl, rfl, rfl, rfl, hide ⟨by simp [nodesL], by simp [depthL], by simp [bytesL]⟩, hide (by rw [hao.out]; simp [readsL]), hide (Below.refl _ _)⟩
  case round =>
    obtain ⟨k, T, N, D, B, hkl, rfl, rfl, rfl, rfl, rfl, HN, HT, HB⟩ := hrel
    have z13 := ((Q3.out.keep HB.out).at' 13).trans c13
    by_cases hlt : k < len
    · have p0 : (k : Int) < (len : Int) := by omega
      obtain ⟨b, o, rfl, hk1, aa, kl, cc, tk0, rk⟩ := hK.out.get hlt
      have bw := hide (next b3.out HB.out)
      have ht1 : ks.take (k + 1) = ks.take k ++ [ks[k]] := List.take_succ_eq_append_getElem hk1
      have htd : ks = ks.take k ++ ks[k] :: ks.drop (k + 1) := by rw [← List.drop_eq_getElem_cons hk1, List.take_append_drop]
      have HS := HK1.out _ (List.getElem_mem hk1) _ wr (tk0.step bw.out)
      rw [hfk.out _ (List.getElem_mem hk1)] at HS
      have hmk := hide (hak.out _ (List.getElem_mem hk1))
      have HR := hide (fun w' (h : Below w.heap.size w w') => reads_any ks[k] _ w' (tk0.step h))
      have HM := hide (fun w' (h : Below w.heap.size w w') => may_any ks[k] _ w' (tk0.step h))
      rw [hmk.out] at HM
      have hn1 := nodesL_snoc (ks.take k) ks[k]
      have hd1 := depthL_snoc (ks.take k) ks[k]
      have hb1 := bytesL_snoc (ks.take k) ks[k]
      have hr1 := readsL_snoc (ks.take k) ks[k]
      have hn2 := nodesL_le ks (k + 1)
      have hb2 := bytesL_le ks (k + 1)
      rw [← ht1] at hn1 hd1 hb1 hr1
      have hrs : readsE (.mk nd ks) = (arOf nd ++ readsL (ks.take k)) ++ (readsE ks[k] ++ readsL (ks.drop (k + 1))) := by
        rw [hrd.out]
        conv => lhs; rw [htd]
        rw [readsL_app, readsL, List.append_assoc]
      have hb0 := World.block_lt_of_cell? w ⟨b, _, none⟩ (rk 0 _ rfl)
      have R1 := hide (range_of_block rk (bw.out.block b hb0))
      have RR := hide (fun w' (h : Below w.heap.size w w') => range_of_block rk (h.block b hb0))
      generalize ks[k] = tk at *
      obtain ⟨x, hx⟩ : ∃ x : Int, (nodesE tk : Int) = x := ⟨_, rfl⟩
      obtain ⟨y, hy⟩ : ∃ y : Int, (depthE tk : Int) = y := ⟨_, rfl⟩
      obtain ⟨z, hz⟩ : ∃ z : Int, (bytesE tk : Int) = z := ⟨_, rfl⟩
      rw [hx, hy, hz] at HS
      have hNo := HN.out
      have hno := hnf.out
      have hTo := HT.out
      have hrlo := hrl.out
      have hllo := hll.out
      have hlen := congrArg List.length hrs
      simp only [List.length_append] at hlen
      obtain ⟨R, hR⟩ : ∃ R : Nat, (readsE tk).length = R := ⟨_, rfl⟩
      rw [hR] at hlen
      have hsm := hK.out.small
      have vn : -9223372036854775808 ≤ N + x ∧ N + x ≤ 9223372036854775807 := by omega
      have vb : -9223372036854775808 ≤ B + z ∧ B + z ≤ 9223372036854775807 := by omega
      have vk : -9223372036854775808 ≤ (k : Int) + 1 ∧ (k : Int) + 1 ≤ 9223372036854775807 := by omega
      have v1 : -9223372036854775808 ≤ (ll : Int) - (T : Int) ∧ (ll : Int) - (T : Int) ≤ 9223372036854775807 := by omega
      have v2 : -9223372036854775808 ≤ (T : Int) + (R : Int) ∧ (T : Int) + (R : Int) ≤ 9223372036854775807 := by omega
      have HN' : Hid (N + x = ((1 + nodesL (ks.take (k + 1)) : Nat) : Int) ∧ max D y = ((depthL (ks.take (k + 1)) : Nat) : Int) ∧ B + z = ((0 + bytesL (ks.take (k + 1)) : Nat) : Int)) := hide ⟨by omega, by omega, by omega⟩
      have hT' : Hid (T + R = (arOf nd).length + (readsL (ks.take (k + 1))).length) := hide (by rw [hr1, List.length_append]; omega)
      have hlco := hlc.out
      have g1 : ¬ ((ll : Int) - (T : Int) < (R : Int)) := by omega
      have g2 : (T : Int) + (R : Int) ≤ (lc : Int) := by omega
      have g3 : T + R ≤ lc := by omega
      have g4 : Hid (T + R ≤ ll) := hide (by omega)
      have g5 : Hid (R ≤ 512) := hide (by omega)
      have vT : Hid (-9223372036854775808 ≤ (T : Int) ∧ (T : Int) ≤ 9223372036854775807) := hide (by omega)
      have gT : Hid ((T : Int) ≤ (ll : Int)) := hide (by omega)
      have gT' : Hid (T ≤ ll) := hide (by omega)
      have hpart : Hid (0 < R → ∃ b o, la = some ⟨b, o, none⟩ ∧ AreasAt w3 (some ⟨b, o + T * 4, none⟩) R (readsE tk)) := hide (fun hp => by
        obtain ⟨b, o, h1, h2⟩ := hAr.out.part hrs (readsE tk).length (by simp) (by rw [hR]; exact hp)
        rw [List.take_left, List.length_append, ← hTo, hR] at h2
        exact ⟨b, o, h1, h2⟩)
      have hmx := ite_max D y
      replace HS := hide HS
      replace hR := hide hR
      replace g1 := hide g1
      replace g2 := hide g2
      replace g3 := hide g3
      replace v1 := hide v1
      replace v2 := hide v2
      have wn := IntWalk.wrap64_in _ vn
      have wb := IntWalk.wrap64_in _ vb
      have wk := IntWalk.wrap64_in _ vk
      clear rk tk0 hn1 hd1 hb1 hr1 hn2 hb2 ht1 htd hNo hno hTo hrlo hllo hlen hrs hx hy hz vn vb vk hsm hlco
      go_wp2_with (first
    | (refine wpList_load_at rfl 29 _ rfl _ _ rfl _ _ (by with_reducible exact R1.out) Try.underlying29 rfl (exC_info _ _) ?_)
        | (go_at_call 18; refine HS.out.mono ?_; rintro e w4 ⟨rfl, hb⟩; have b4 := hide (next HB.out hb); have z4 := ((Q3.out.keep b4.out).at' 13).trans c13; have R4 := hide (RR.out _ (next b3.out b4.out)); clear hb)
    | (refine wpList_load_at rfl 29 _ rfl _ _ rfl _ _ (by with_reducible exact R4.out) Try.underlying29 rfl (exC_info _ _) ?_)
)
      refine (HR.out _ (next b3.out b4.out)).mono ?_
      rintro e w5 hr
      obtain ⟨ma, ml, mc, rfl, mrow, hb⟩ := reads_yes hr hmk.out
      have b5 := hide (next b4.out hb)
      have z5 := ((Q3.out.keep b5.out).at' 13).trans c13
      have R5 := hide (RR.out _ (next b3.out b5.out))
      obtain ⟨hMr, _⟩ := mrow.areas (by rw [hR.out]; have := g5.out; exact Nat.le_trans this (by decide))
      obtain rfl : ml = R := hMr.lq.trans hR.out
      replace hMr := hide hMr
      clear hb hr mrow
      go_wp2_with (first
    | (refine wpList_load_at rfl 29 _ rfl _ _ rfl _ _ (by with_reducible exact R5.out) Try.underlying29 rfl (exC_info _ _) ?_))
      refine (HM.out _ (next b3.out b5.out)).mono ?_
      rintro e w6 ⟨rfl, hb⟩
      have b6 := hide (next b5.out hb)
      have hM6 := hide (hMr.out.keep hb)
      have w1 := IntWalk.wrap64_in _ v1.out
      have w2 := IntWalk.wrap64_in _ v2.out
      have g1' := g1.out
      have g2' := g2.out
      have g3' := g3.out
      have wT := IntWalk.wrap64_in _ vT.out
      have gU := gT.out
      have gU' := gT'.out
      clear hb z5 z4 z13
      have g6 : (0 : Int) ≤ (T : Int) + (ml : Int) := zero_le_sum T ml
      have hA0 : Hid (ml = 0 → ∀ x, AreasAt w6 x 0 (readsE tk)) := hide (fun h x => ⟨by rw [hR.out, h], Nat.zero_le _, .inl rfl⟩)
      have HA := hide (fun a1 c1 (h : AreasAt w6 a1 ml (readsE tk)) => areas_any (readsE tk) (readsE tk) a1 ma ml ml c1 mc w6 h hM6.out)
      simp only [decide_true] at HA
      have hT2 : Hid (wrap64 ((T : Int) + (ml : Int)) = ((T + ml : Nat) : Int)) := hide (by rw [w2]; rfl)
      have g8 : (T : Int) ≤ (T : Int) + (ml : Int) := le_sum T ml
      replace hlt := hide hlt
      replace wk := hide wk
      clear hkl p0 wn wb hmx v1 v2 g1 g2 g3 vT gT gT' hb0 hk1
      rcases hsh.out with ⟨rfl, rfl, rfl⟩ | ⟨g, rfl⟩
      · obtain ⟨rfl, rfl⟩ : T = 0 ∧ ml = 0 := zero_both g4.out
        clear g1' g2' g3' gU gU' g6 g8
        go_wp2_with fail
        refine (HA.out _ _ (hA0.out (by trivial) _)).mono ?_
        rintro e w7 ⟨rfl, hb⟩
        have b7 := hide (next b6.out hb)
        clear hb
        go_wp2_with fail
        refine ⟨⟨k + 1, 0 + 0, _, _, _, hlt.out, rfl, rfl, rfl, by first | rfl | (rw [hT2.out]) | (rw [wT]; rfl), by rw [wk.out]; rfl, HN', hT', b7⟩, ?_⟩
        rw [wk.out]
        exact meas_lt hlt.out
      · by_cases hlT : lc = T
        · have g7 := g3'
          rw [hlT] at g7
          obtain rfl : ml = 0 := zero_right g7
          clear g7
          subst hlT
          clear g1' g2' g3' g6 g8
          go_wp2_with fail
          refine (HA.out _ _ (hA0.out (by trivial) _)).mono ?_
          rintro e w7 ⟨rfl, hb⟩
          have b7 := hide (next b6.out hb)
          clear hb
          go_wp2_with fail
          refine ⟨⟨k + 1, lc + 0, _, _, _, hlt.out, rfl, rfl, rfl, by first | rfl | (rw [hT2.out]) | (rw [wT]; rfl), by rw [wk.out]; rfl, HN', hT', b7⟩, ?_⟩
          rw [wk.out]
          exact meas_lt hlt.out
        · have hA6 : Hid (AreasAt w6 (some ⟨g, T * 4, none⟩) ml (readsE tk)) := hide (by
            rcases Nat.eq_zero_or_pos ml with h0 | h0
            · have := hA0.out h0 (some ⟨g, T * 4, none⟩)
              rw [h0]
              exact this
            · obtain ⟨b', o', e, h⟩ := hpart.out h0
              cases e
              rw [Nat.zero_add] at h
              exact h.keep b6.out)
          clear g3' gU gU' wT
          go_wp2_with fail
          refine (HA.out _ _ hA6.out).mono ?_
          rintro e w7 ⟨rfl, hb⟩
          have b7 := hide (next b6.out hb)
          clear hb
          go_wp2_with fail
          refine ⟨⟨k + 1, T + ml, _, _, _, hlt.out, rfl, rfl, rfl, by first | rfl | (rw [hT2.out]) | (rw [wT]; rfl), by rw [wk.out]; rfl, HN', hT', b7⟩, ?_⟩
          rw [wk.out]
          exact meas_lt hlt.out
    · obtain rfl : k = len := by omega
      have hNo := HN.out
      have hno := hnf.out
      have hX' := hX.out
      have hY' := hY.out
      have hZ' := hZ.out
      have hTo := HT.out
      have hllo := hll.out
      rw [hrd.out, List.length_append] at hllo
      rw [hln.out, List.take_length] at hNo hTo
      have vd : -9223372036854775808 ≤ D + 1 ∧ D + 1 ≤ 9223372036854775807 := by omega
      have q1 : (X == N) = true := by simp; omega
      have q2 : (Y == D + 1) = true := by simp; omega
      have q3 : (Z == B) = true := by simp; omega
      have q4 : ((T : Int) == (ll : Int)) = true := by simp; omega
      have wd := IntWalk.wrap64_in _ vd
      clear hNo hno hX' hY' hZ' hTo hllo vd
      go_wp2_with fail
      go_ret
      exact ⟨rfl, next b3.out HB.out⟩
end Go.Proofs.Ytdegfmebgllklaa
