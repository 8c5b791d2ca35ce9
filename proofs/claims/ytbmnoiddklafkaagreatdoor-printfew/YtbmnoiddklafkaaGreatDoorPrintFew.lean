/- PrintFew: the law's walk, for every tree and every choice: without one pair of brackets the text is that of another tree, or of none. -/
import Derived.Test.YtbmnoiddklafkaaGreatDoorFwC11
namespace Go.Proofs.YtbmnoiddklafkaaGreatDoor
open T9
open Go.RowKit Go.Sort
set_option linter.unusedVariables false

namespace T9
set_option maxHeartbeats 8000000 in
set_option maxRecDepth 100000 in
theorem printFew_walk (t : Ex) (v : Value) (n : Int) (hn : (Lit.int .u8 n).wf = true) (w : World) (hl : Lay11 w) (h8 : Lay8 w) (ht : Tree w v t) (hN : NumE t) : Calls Tryz.prog 8 #[v, .int .u8 n] w fun e w' => e = .returned (.bool true) ∧ Below w.heap.size w w' := by
  obtain ⟨hn0, hn1⟩ := wf_u8f hn
  obtain ⟨m, rfl⟩ : ∃ m : Nat, n = m := ⟨n.toNat, by omega⟩
  have HB := hide (fun w' (hb : Below w.heap.size w w') => begun11 w' (hl.keep hb))
  have HF := hide (fun w' (hb : Below w.heap.size w w') => formula_any t v w' (ht.step hb) (hl.keep hb) hN)
  by_cases h1 : mayR t = 0
  · rw [forV_ok h1] at HF
    have hsz : (61 :: txE t).length ≤ 65536 := by
      have := txE_short h1 hN
      rw [List.length_cons]
      omega
    have HPa := hide (fun w' => pairs_any (ba (61 :: txE t)) (by rw [ba_size]; omega) w')
    have HP := hide (fun (s : ByteArray) (hs : s.size ≤ maxLen) (hu : ∀ u j, parR s = .ok u j → ¬ u = t) w' (hb : Below w.heap.size w w') => few_call h1 s hs hu w' (h8.keep hb))
    have HS := hide (fun u v2 w' (hb : Below w.heap.size w w') (ht2 : Tree w' v2 u) => same_any t u v v2 w' (ht.step hb) ht2)
    have hstr := hide (fun k i (hk : 0 < k) (hp : Pair (61 :: txE t) k i) u j (hu : parR (ba (strike (61 :: txE t) k i)) = .ok u j) => few_strike h1 hN hk hp hu)
    generalize 61 :: txE t = L at *
    obtain ⟨nd, ks⟩ := t
    obtain ⟨a, len, cap, rfl, _, _, _, _⟩ := ht.un
    have P0 := hide (Blk.new w (exC nd (.slice a len cap)) 30)
    have B0 := hide (step (Below.refl w.heap.size w) (exO nd (.slice a len cap)))
    replace hsz := hide hsz
    clear ht hN hl h8 hn
    go_enter Tryz.func8, Tryz.ntmps8
    go_upto_region 7 with (first
      | (refine wpList_load_blk rfl 30 _ rfl _ rfl _ (by with_reducible exact P1.out) _ Tryz.underlying30 rfl (exC_info _ _) ?_)
      | (have hq := B2; go_at_call 26; refine (HPa.out _).mono ?_; rintro e w3 ⟨vP, P, rfl, hrow, hpr, hPl, hb⟩; obtain ⟨ap, cp, rfl⟩ := row_slice hrow; clear hq; have B3 := hide (next B2.out hb); have P3 := hide (P2.out.keep hb); replace hrow := hide hrow; replace hpr := hide hpr; replace hPl := hide hPl; clear hb)
      | (have hq := B1; go_at_call 23; refine (HF.out _ B1.out).mono ?_; rintro e w2 ⟨rfl, hb⟩; clear hq; have B2 := hide (next B1.out hb); have P2 := hide (P1.out.keep hb); clear hb)
      | (have hq := B0; go_at_call 22; refine (HB.out _ B0.out).mono ?_; rintro e w1 ⟨rfl, hb⟩; clear hq; have B1 := hide (next B0.out hb); have P1 := hide (P0.out.keep hb); clear hb))
    by_cases hP : P.length = 0
    · have h0 : ((P.length : Int) == 0) = true := by rw [hP]; rfl
      go_wp2_with fail
      go_ret
      exact ⟨rfl, B3.out⟩
    · obtain ⟨j, hjl, hrem, hji, hPi, h0⟩ := few_rem m P.length hP
      obtain ⟨g, c2, hgs⟩ := row_sl hrow.out (Nat.pos_of_ne_zero hP)
      obtain ⟨rfl, _, rfl⟩ := Value.slice.inj hgs
      obtain ⟨c0, c1⟩ := RowQ.at rfl hrow.out j hjl
      obtain ⟨hk0, hpair⟩ := hpr.out P[j] (List.getElem_mem hjl)
      generalize P[j] = p at *
      obtain ⟨k, i⟩ := p
      simp only at c0 c1 hk0 hpair
      obtain ⟨e1, e2, S1, S2, S3, SY, SX, s1, s2, s3, a1, a2, hSX, hSz⟩ := few_cut hsz.out hpair
      have HP4 := hide (fun w' (hb : Below w.heap.size w w') => HP.out SX hSz (by rw [hSX]; exact hstr.out k i hk0 hpair) w' hb)
      clear hSX hSz hpair hk0 hstr HP hpr hrow hPl HPa HF HB hsz
      have xb := hide (Blk.new w3 #[.int .i64 (k : Int), .int .i64 (i : Int)] 61)
      have B4 := hide (step B3.out (.cells #[.int .i64 (k : Int), .int .i64 (i : Int)] 61))
      have P4 := hide (P3.out.alloc (.cells #[.int .i64 (k : Int), .int .i64 (i : Int)] 61))
      clear P3 B3
      go_upto_region 10 with fail
      clear c0 c1
      generalize hw4 : w3.alloc (.cells #[.int .i64 (k : Int), .int .i64 (i : Int)] 61) = w4 at *
      generalize w3.heap.size = X4 at *
      clear hw4
      refine few_reg (.mk nd ks) w4 X4 k i (ba L) S1 S2 S3 SY SX xb.out e1 e2 s1 s2 s3 a1 a2 (fun w' hb => HP4.out w' (next B4.out hb)) _ _ _ _ _ _ _ _ _ _ _ _ _ _ _ _ _ _ _ _ _ _ _ _ _ _ _ _ _ _ _ _ _ _ _ _ _ _ ?_
      intro wx x34 x35 x36 x37 x38 x39 x40 x41 x42 x43 x44 x45 x46 x47 x48 x49 x50 x51 x52 x53 x54 x55 x56 U nd2 pa pl pc2 q er u hb6 U6 T6 hne
      have B6 := hide (next B4.out hb6)
      have P6 := hide (P4.out.keep hb6)
      replace U6 := hide U6
      replace T6 := hide T6
      replace hne := hide hne
      clear hb6 HP4 e1 e2 s1 s2 s3 a1 a2 xb B4 P4
      by_cases her : er = 0
      · subst her
        have HS6 := HS.out u _ _ B6.out T6.out
        rw [same_not hne.out] at HS6
        replace HS6 := hide HS6
        go_wp2_with (first
          | (refine wpList_load_blk_g rfl 30 _ rfl _ rfl _ (by with_reducible exact U6.out) _ Tryz.underlying30 rfl (exC_info _ _) ?_)
          | (refine wpList_load_blk_g rfl 30 _ rfl _ rfl _ (by with_reducible exact P6.out) _ Tryz.underlying30 rfl (exC_info _ _) ?_)
          | (go_at_call 24; refine HS6.out.mono ?_; rintro e w7 ⟨rfl, hb⟩; have B7 := hide (next B6.out hb); clear hb))
        go_ret
        exact ⟨rfl, B7.out⟩
      · have her1 : (er != 0) = true := by rw [bne_iff_ne]; exact her
        go_wp2_with fail
        go_ret
        exact ⟨rfl, B6.out⟩
  · have m2 : (mayR t != 0) = true := by simpa using h1
    rw [forV_no h1] at HF
    obtain ⟨nd, ks⟩ := t
    obtain ⟨a, len, cap, rfl, _, _, _, _⟩ := ht.un
    generalize mayR (.mk nd ks) = M at *
    have P0 := hide (Blk.new w (exC nd (.slice a len cap)) 30)
    have B0 := hide (step (Below.refl w.heap.size w) (exO nd (.slice a len cap)))
    clear ht hN hl h8
    go_enter Tryz.func8, Tryz.ntmps8
    go_wp2_with (first
      | (refine wpList_load_blk rfl 30 _ rfl _ rfl _ (by with_reducible exact P1.out) _ Tryz.underlying30 rfl (exC_info _ _) ?_)
      | (have hq := B1; go_at_call 23; refine (HF.out _ B1.out).mono ?_; rintro e w2 ⟨rfl, hb⟩; clear hq; have B2 := hide (next B1.out hb); clear hb)
      | (have hq := B0; go_at_call 22; refine (HB.out _ B0.out).mono ?_; rintro e w1 ⟨rfl, hb⟩; clear hq; have B1 := hide (next B0.out hb); have P1 := hide (P0.out.keep hb); clear hb))
    go_ret
    exact ⟨rfl, B2.out⟩
end T9
end Go.Proofs.YtbmnoiddklafkaaGreatDoor
