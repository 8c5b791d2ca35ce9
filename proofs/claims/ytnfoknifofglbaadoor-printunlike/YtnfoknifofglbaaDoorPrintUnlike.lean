/- PrintUnlike: the law's walk, for every two trees. -/
import Derived.Test.YtnfoknifofglbaaDoorBin11
import Derived.Test.YtnfoknifofglbaaDoorUnJ11
namespace Go.Proofs.YtnfoknifofglbaaDoor
open T9
open Go.RowKit Go.Sort
set_option linter.unusedVariables false

namespace T9
theorem forV_ok {t : Ex} (h : mayR t = 0) : forV t = .tuple #[.string (ba (61 :: txE t)), .int .i64 0] := by unfold forV; rw [if_pos h]
theorem tl_no {a b : ByteArray} (h : ¬ a = b) : (a.toList == b.toList) = false := by
  rw [beq_eq_false_iff_ne]
  intro e
  rw [ByteArray.toList_eq, ByteArray.toList_eq] at e
  exact h (ByteArray.ext (Array.ext' e))
theorem ba_in {a b : List UInt8} (h : ba (61 :: a) = ba (61 :: b)) : a = b := by
  have := congrArg (fun s => s.data.toList) h
  simpa using this
set_option maxHeartbeats 4000000 in
set_option maxRecDepth 100000 in
theorem printUnlike_walk (t : Ex) (v : Value) (u : Ex) (v2 : Value) (w : World) (hl : Lay11 w) (ht : Tree w v t) (hN : NumE t) (hu : Tree w v2 u) (hM : NumE u) : Calls Tryd.prog 5 #[v, v2] w fun e w' => e = .returned (.bool true) ∧ Below w.heap.size w w' := by
  have HB := hide (fun w' (hb : Below w.heap.size w w') => begun11 w' (hl.keep hb))
  have H1 := hide (fun w' (hb : Below w.heap.size w w') => may_any t v w' (ht.step hb))
  have H2 := hide (fun w' (hb : Below w.heap.size w w') => may_any u v2 w' (hu.step hb))
  have HF := hide (fun w' (hb : Below w.heap.size w w') => formula_any t v w' (ht.step hb) (hl.keep hb) hN)
  have HG := hide (fun w' (hb : Below w.heap.size w w') => formula_any u v2 w' (hu.step hb) (hl.keep hb) hM)
  have HS := hide (fun w' (hb : Below w.heap.size w w') => same_any t u v v2 w' (ht.step hb) (hu.step hb))
  have hsame := hide (fun (h1 : mayR t = 0) (h2 : mayR u = 0) => same_tx h1 h2 hN hM)
  have hfit := hide (fun (h1 : mayR t = 0) (h2 : mayR u = 0) => show (fitB t && fitB u && sameE t u) = sameE t u by rw [(may_all h1).1, (may_all h2).1]; rfl)
  have hok1 := hide (@forV_ok t)
  have hok2 := hide (@forV_ok u)
  obtain ⟨nd, ks⟩ := t
  obtain ⟨md, ls⟩ := u
  obtain ⟨a, len, cap, rfl, _, _, _, _⟩ := ht.un
  obtain ⟨b, lm, cm, rfl, _, _, _, _⟩ := hu.un
  have P0 := hide ((Blk.new w (exC nd (.slice a len cap)) 26).alloc (exO md (.slice b lm cm)))
  have Q0 := hide (Blk.new1 w (exO nd (.slice a len cap)) (exC md (.slice b lm cm)) 26)
  have B0 := hide (step (step (Below.refl w.heap.size w) (exO nd (.slice a len cap))) (exO md (.slice b lm cm)))
  clear ht hu hl hN hM
  by_cases h1 : mayR (.mk nd ks) = 0
  · by_cases h2 : mayR (.mk md ls) = 0
    · rw [hok1.out h1] at HF
      rw [hok2.out h2] at HG
      rw [hfit.out h1 h2] at HS
      have hst := hsame.out h1 h2
      rw [h1] at H1
      rw [h2] at H2
      obtain ⟨A, hA⟩ : ∃ A, ba (61 :: txE (.mk nd ks)) = A := ⟨_, rfl⟩
      obtain ⟨Z, hZ⟩ : ∃ Z, ba (61 :: txE (.mk md ls)) = Z := ⟨_, rfl⟩
      rw [hA] at HF
      rw [hZ] at HG
      have hq : (sameE (.mk nd ks) (.mk md ls) = true ∧ A = Z) ∨ (sameE (.mk nd ks) (.mk md ls) = false ∧ ¬ A = Z) := by
        cases q : sameE (.mk nd ks) (.mk md ls)
        · refine .inr ⟨rfl, fun e => ?_⟩
          rw [← hA, ← hZ] at e
          have := hst.1 (ba_in e)
          rw [q] at this
          cases this
        · refine .inl ⟨rfl, ?_⟩
          rw [← hA, ← hZ, hst.2 q]
      generalize sameE (.mk nd ks) (.mk md ls) = SS at *
      clear hok1 hok2 hfit hsame hst h1 h2 hA hZ
      rcases hq with ⟨rfl, rfl⟩ | ⟨rfl, hne⟩
      · go_enter Tryd.func5, Tryd.ntmps5
        go_wp2_with (first
          | (refine wpList_load_blk rfl 26 _ rfl _ rfl _ (by with_reducible exact P5.out) _ Tryd.underlying26 rfl (exC_info _ _) ?_)
          | (refine wpList_load_blk_g rfl 26 _ rfl _ rfl _ (by with_reducible exact P5.out) _ Tryd.underlying26 rfl (exC_info _ _) ?_)
          | (refine wpList_load_blk rfl 26 _ rfl _ rfl _ (by with_reducible exact Q5.out) _ Tryd.underlying26 rfl (exC_info _ _) ?_)
          | (refine wpList_load_blk_g rfl 26 _ rfl _ rfl _ (by with_reducible exact Q5.out) _ Tryd.underlying26 rfl (exC_info _ _) ?_)
          | (refine wpList_load_blk rfl 26 _ rfl _ rfl _ (by with_reducible exact P4.out) _ Tryd.underlying26 rfl (exC_info _ _) ?_)
          | (refine wpList_load_blk_g rfl 26 _ rfl _ rfl _ (by with_reducible exact P4.out) _ Tryd.underlying26 rfl (exC_info _ _) ?_)
          | (refine wpList_load_blk rfl 26 _ rfl _ rfl _ (by with_reducible exact Q4.out) _ Tryd.underlying26 rfl (exC_info _ _) ?_)
          | (refine wpList_load_blk_g rfl 26 _ rfl _ rfl _ (by with_reducible exact Q4.out) _ Tryd.underlying26 rfl (exC_info _ _) ?_)
          | (refine wpList_load_blk rfl 26 _ rfl _ rfl _ (by with_reducible exact P3.out) _ Tryd.underlying26 rfl (exC_info _ _) ?_)
          | (refine wpList_load_blk_g rfl 26 _ rfl _ rfl _ (by with_reducible exact P3.out) _ Tryd.underlying26 rfl (exC_info _ _) ?_)
          | (refine wpList_load_blk rfl 26 _ rfl _ rfl _ (by with_reducible exact Q3.out) _ Tryd.underlying26 rfl (exC_info _ _) ?_)
          | (refine wpList_load_blk_g rfl 26 _ rfl _ rfl _ (by with_reducible exact Q3.out) _ Tryd.underlying26 rfl (exC_info _ _) ?_)
          | (refine wpList_load_blk rfl 26 _ rfl _ rfl _ (by with_reducible exact P2.out) _ Tryd.underlying26 rfl (exC_info _ _) ?_)
          | (refine wpList_load_blk_g rfl 26 _ rfl _ rfl _ (by with_reducible exact P2.out) _ Tryd.underlying26 rfl (exC_info _ _) ?_)
          | (refine wpList_load_blk rfl 26 _ rfl _ rfl _ (by with_reducible exact Q2.out) _ Tryd.underlying26 rfl (exC_info _ _) ?_)
          | (refine wpList_load_blk_g rfl 26 _ rfl _ rfl _ (by with_reducible exact Q2.out) _ Tryd.underlying26 rfl (exC_info _ _) ?_)
          | (refine wpList_load_blk rfl 26 _ rfl _ rfl _ (by with_reducible exact P1.out) _ Tryd.underlying26 rfl (exC_info _ _) ?_)
          | (refine wpList_load_blk_g rfl 26 _ rfl _ rfl _ (by with_reducible exact P1.out) _ Tryd.underlying26 rfl (exC_info _ _) ?_)
          | (refine wpList_load_blk rfl 26 _ rfl _ rfl _ (by with_reducible exact Q1.out) _ Tryd.underlying26 rfl (exC_info _ _) ?_)
          | (refine wpList_load_blk_g rfl 26 _ rfl _ rfl _ (by with_reducible exact Q1.out) _ Tryd.underlying26 rfl (exC_info _ _) ?_)
          | (have hq := B5; go_at_call 13; refine (HS.out _ B5.out).mono ?_; rintro e w6 ⟨rfl, hb⟩; clear hq; have B6 := hide (next B5.out hb); clear hb)
          | (have hq := B4; go_at_call 8; refine (HG.out _ B4.out).mono ?_; rintro e w5 ⟨rfl, hb⟩; clear hq; have B5 := hide (next B4.out hb); have P5 := hide (P4.out.keep hb); have Q5 := hide (Q4.out.keep hb); clear hb)
          | (have hq := B3; go_at_call 8; refine (HF.out _ B3.out).mono ?_; rintro e w4 ⟨rfl, hb⟩; clear hq; have B4 := hide (next B3.out hb); have P4 := hide (P3.out.keep hb); have Q4 := hide (Q3.out.keep hb); clear hb)
          | (have hq := B2; go_at_call 12; refine (H2.out _ B2.out).mono ?_; rintro e w3 ⟨rfl, hb⟩; clear hq; have B3 := hide (next B2.out hb); have P3 := hide (P2.out.keep hb); have Q3 := hide (Q2.out.keep hb); clear hb)
          | (have hq := B1; go_at_call 12; refine (H1.out _ B1.out).mono ?_; rintro e w2 ⟨rfl, hb⟩; clear hq; have B2 := hide (next B1.out hb); have P2 := hide (P1.out.keep hb); have Q2 := hide (Q1.out.keep hb); clear hb)
          | (have hq := B0; go_at_call 6; refine (HB.out _ B0.out).mono ?_; rintro e w1 ⟨rfl, hb⟩; clear hq; have B1 := hide (next B0.out hb); have P1 := hide (P0.out.keep hb); have Q1 := hide (Q0.out.keep hb); clear hb))
        go_ret
        exact ⟨rfl, B6.out⟩
      · have k1 := tl_no hne
        go_enter Tryd.func5, Tryd.ntmps5
        go_wp2_with (first
          | (refine wpList_load_blk rfl 26 _ rfl _ rfl _ (by with_reducible exact P5.out) _ Tryd.underlying26 rfl (exC_info _ _) ?_)
          | (refine wpList_load_blk_g rfl 26 _ rfl _ rfl _ (by with_reducible exact P5.out) _ Tryd.underlying26 rfl (exC_info _ _) ?_)
          | (refine wpList_load_blk rfl 26 _ rfl _ rfl _ (by with_reducible exact Q5.out) _ Tryd.underlying26 rfl (exC_info _ _) ?_)
          | (refine wpList_load_blk_g rfl 26 _ rfl _ rfl _ (by with_reducible exact Q5.out) _ Tryd.underlying26 rfl (exC_info _ _) ?_)
          | (refine wpList_load_blk rfl 26 _ rfl _ rfl _ (by with_reducible exact P4.out) _ Tryd.underlying26 rfl (exC_info _ _) ?_)
          | (refine wpList_load_blk_g rfl 26 _ rfl _ rfl _ (by with_reducible exact P4.out) _ Tryd.underlying26 rfl (exC_info _ _) ?_)
          | (refine wpList_load_blk rfl 26 _ rfl _ rfl _ (by with_reducible exact Q4.out) _ Tryd.underlying26 rfl (exC_info _ _) ?_)
          | (refine wpList_load_blk_g rfl 26 _ rfl _ rfl _ (by with_reducible exact Q4.out) _ Tryd.underlying26 rfl (exC_info _ _) ?_)
          | (refine wpList_load_blk rfl 26 _ rfl _ rfl _ (by with_reducible exact P3.out) _ Tryd.underlying26 rfl (exC_info _ _) ?_)
          | (refine wpList_load_blk_g rfl 26 _ rfl _ rfl _ (by with_reducible exact P3.out) _ Tryd.underlying26 rfl (exC_info _ _) ?_)
          | (refine wpList_load_blk rfl 26 _ rfl _ rfl _ (by with_reducible exact Q3.out) _ Tryd.underlying26 rfl (exC_info _ _) ?_)
          | (refine wpList_load_blk_g rfl 26 _ rfl _ rfl _ (by with_reducible exact Q3.out) _ Tryd.underlying26 rfl (exC_info _ _) ?_)
          | (refine wpList_load_blk rfl 26 _ rfl _ rfl _ (by with_reducible exact P2.out) _ Tryd.underlying26 rfl (exC_info _ _) ?_)
          | (refine wpList_load_blk_g rfl 26 _ rfl _ rfl _ (by with_reducible exact P2.out) _ Tryd.underlying26 rfl (exC_info _ _) ?_)
          | (refine wpList_load_blk rfl 26 _ rfl _ rfl _ (by with_reducible exact Q2.out) _ Tryd.underlying26 rfl (exC_info _ _) ?_)
          | (refine wpList_load_blk_g rfl 26 _ rfl _ rfl _ (by with_reducible exact Q2.out) _ Tryd.underlying26 rfl (exC_info _ _) ?_)
          | (refine wpList_load_blk rfl 26 _ rfl _ rfl _ (by with_reducible exact P1.out) _ Tryd.underlying26 rfl (exC_info _ _) ?_)
          | (refine wpList_load_blk_g rfl 26 _ rfl _ rfl _ (by with_reducible exact P1.out) _ Tryd.underlying26 rfl (exC_info _ _) ?_)
          | (refine wpList_load_blk rfl 26 _ rfl _ rfl _ (by with_reducible exact Q1.out) _ Tryd.underlying26 rfl (exC_info _ _) ?_)
          | (refine wpList_load_blk_g rfl 26 _ rfl _ rfl _ (by with_reducible exact Q1.out) _ Tryd.underlying26 rfl (exC_info _ _) ?_)
          | (have hq := B5; go_at_call 13; refine (HS.out _ B5.out).mono ?_; rintro e w6 ⟨rfl, hb⟩; clear hq; have B6 := hide (next B5.out hb); clear hb)
          | (have hq := B4; go_at_call 8; refine (HG.out _ B4.out).mono ?_; rintro e w5 ⟨rfl, hb⟩; clear hq; have B5 := hide (next B4.out hb); have P5 := hide (P4.out.keep hb); have Q5 := hide (Q4.out.keep hb); clear hb)
          | (have hq := B3; go_at_call 8; refine (HF.out _ B3.out).mono ?_; rintro e w4 ⟨rfl, hb⟩; clear hq; have B4 := hide (next B3.out hb); have P4 := hide (P3.out.keep hb); have Q4 := hide (Q3.out.keep hb); clear hb)
          | (have hq := B2; go_at_call 12; refine (H2.out _ B2.out).mono ?_; rintro e w3 ⟨rfl, hb⟩; clear hq; have B3 := hide (next B2.out hb); have P3 := hide (P2.out.keep hb); have Q3 := hide (Q2.out.keep hb); clear hb)
          | (have hq := B1; go_at_call 12; refine (H1.out _ B1.out).mono ?_; rintro e w2 ⟨rfl, hb⟩; clear hq; have B2 := hide (next B1.out hb); have P2 := hide (P1.out.keep hb); have Q2 := hide (Q1.out.keep hb); clear hb)
          | (have hq := B0; go_at_call 6; refine (HB.out _ B0.out).mono ?_; rintro e w1 ⟨rfl, hb⟩; clear hq; have B1 := hide (next B0.out hb); have P1 := hide (P0.out.keep hb); have Q1 := hide (Q0.out.keep hb); clear hb))
        go_ret
        exact ⟨rfl, B6.out⟩
    · have m1 : (mayR (.mk md ls) == 0) = false := by simpa using h2
      have m2 : (mayR (.mk md ls) != 0) = true := by simpa using h2
      rw [h1] at H1
      generalize mayR (.mk md ls) = M at *
      clear hok1 hok2 hfit hsame HF HG HS
      go_enter Tryd.func5, Tryd.ntmps5
      go_wp2_with (first
        | (refine wpList_load_blk rfl 26 _ rfl _ rfl _ (by with_reducible exact P2.out) _ Tryd.underlying26 rfl (exC_info _ _) ?_)
        | (refine wpList_load_blk_g rfl 26 _ rfl _ rfl _ (by with_reducible exact P2.out) _ Tryd.underlying26 rfl (exC_info _ _) ?_)
        | (refine wpList_load_blk rfl 26 _ rfl _ rfl _ (by with_reducible exact Q2.out) _ Tryd.underlying26 rfl (exC_info _ _) ?_)
        | (refine wpList_load_blk_g rfl 26 _ rfl _ rfl _ (by with_reducible exact Q2.out) _ Tryd.underlying26 rfl (exC_info _ _) ?_)
        | (refine wpList_load_blk rfl 26 _ rfl _ rfl _ (by with_reducible exact P1.out) _ Tryd.underlying26 rfl (exC_info _ _) ?_)
        | (refine wpList_load_blk_g rfl 26 _ rfl _ rfl _ (by with_reducible exact P1.out) _ Tryd.underlying26 rfl (exC_info _ _) ?_)
        | (refine wpList_load_blk rfl 26 _ rfl _ rfl _ (by with_reducible exact Q1.out) _ Tryd.underlying26 rfl (exC_info _ _) ?_)
        | (refine wpList_load_blk_g rfl 26 _ rfl _ rfl _ (by with_reducible exact Q1.out) _ Tryd.underlying26 rfl (exC_info _ _) ?_)
        | (have hq := B2; go_at_call 12; refine (H2.out _ B2.out).mono ?_; rintro e w3 ⟨rfl, hb⟩; clear hq; have B3 := hide (next B2.out hb); have P3 := hide (P2.out.keep hb); have Q3 := hide (Q2.out.keep hb); clear hb)
        | (have hq := B1; go_at_call 12; refine (H1.out _ B1.out).mono ?_; rintro e w2 ⟨rfl, hb⟩; clear hq; have B2 := hide (next B1.out hb); have P2 := hide (P1.out.keep hb); have Q2 := hide (Q1.out.keep hb); clear hb)
        | (have hq := B0; go_at_call 6; refine (HB.out _ B0.out).mono ?_; rintro e w1 ⟨rfl, hb⟩; clear hq; have B1 := hide (next B0.out hb); have P1 := hide (P0.out.keep hb); have Q1 := hide (Q0.out.keep hb); clear hb))
      go_ret
      exact ⟨rfl, B3.out⟩
  · have m1 : (mayR (.mk nd ks) == 0) = false := by simpa using h1
    have m2 : (mayR (.mk nd ks) != 0) = true := by simpa using h1
    generalize mayR (.mk nd ks) = M at *
    clear hok1 hok2 hfit hsame HF HG HS H2
    go_enter Tryd.func5, Tryd.ntmps5
    go_wp2_with (first
      | (refine wpList_load_blk rfl 26 _ rfl _ rfl _ (by with_reducible exact P2.out) _ Tryd.underlying26 rfl (exC_info _ _) ?_)
      | (refine wpList_load_blk_g rfl 26 _ rfl _ rfl _ (by with_reducible exact P2.out) _ Tryd.underlying26 rfl (exC_info _ _) ?_)
      | (refine wpList_load_blk rfl 26 _ rfl _ rfl _ (by with_reducible exact Q2.out) _ Tryd.underlying26 rfl (exC_info _ _) ?_)
      | (refine wpList_load_blk_g rfl 26 _ rfl _ rfl _ (by with_reducible exact Q2.out) _ Tryd.underlying26 rfl (exC_info _ _) ?_)
      | (refine wpList_load_blk rfl 26 _ rfl _ rfl _ (by with_reducible exact P1.out) _ Tryd.underlying26 rfl (exC_info _ _) ?_)
      | (refine wpList_load_blk_g rfl 26 _ rfl _ rfl _ (by with_reducible exact P1.out) _ Tryd.underlying26 rfl (exC_info _ _) ?_)
      | (refine wpList_load_blk rfl 26 _ rfl _ rfl _ (by with_reducible exact Q1.out) _ Tryd.underlying26 rfl (exC_info _ _) ?_)
      | (refine wpList_load_blk_g rfl 26 _ rfl _ rfl _ (by with_reducible exact Q1.out) _ Tryd.underlying26 rfl (exC_info _ _) ?_)
      | (have hq := B1; go_at_call 12; refine (H1.out _ B1.out).mono ?_; rintro e w2 ⟨rfl, hb⟩; clear hq; have B2 := hide (next B1.out hb); have P2 := hide (P1.out.keep hb); have Q2 := hide (Q1.out.keep hb); clear hb)
      | (have hq := B0; go_at_call 6; refine (HB.out _ B0.out).mono ?_; rintro e w1 ⟨rfl, hb⟩; clear hq; have B1 := hide (next B0.out hb); have P1 := hide (P0.out.keep hb); have Q1 := hide (Q0.out.keep hb); clear hb))
    go_ret
    exact ⟨rfl, B2.out⟩
end T9
end Go.Proofs.YtnfoknifofglbaaDoor
