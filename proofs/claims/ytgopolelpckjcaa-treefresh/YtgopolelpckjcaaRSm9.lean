/- quadrilleref9.Same and Copy: what they answer of every tree. -/
import Derived.Test.YtgopolelpckjcaaRAll9
namespace Go.Proofs.Ytgopolelpckjcaa
open Go.RowKit Go.Sort
set_option linter.unusedVariables false

theorem size_le {t : Ex} (h : fitB t = true) : (sizeR t).1 ≤ 512 := by have := size_fine h; omega
theorem size_nle {t : Ex} (h : fitB t = false) : ¬ ((sizeR t).1 ≤ 512) := by rw [size_great h]; decide
set_option maxHeartbeats 2000000 in
set_option maxRecDepth 100000 in
theorem rsame_any (t u : Ex) (v1 v2 : Value) (w : World) (t1 : Tree w v1 t) (t2 : Tree w v2 u) :
    Calls Try.prog 21 #[v1, v2] w fun e w' => e = .returned (.bool (fitB t && fitB u && sameE t u)) ∧ Below w.heap.size w w' := by
  obtain ⟨n1, ks⟩ := t
  obtain ⟨n2, ls⟩ := u
  obtain ⟨a1, len1, cap1, rfl, _, _, _, _⟩ := t1.un
  obtain ⟨a2, len2, cap2, rfl, _, _, _, _⟩ := t2.un
  have bel := hide (step (step (Below.refl w.heap.size w) (exO n1 (.slice a1 len1 cap1))) (exO n2 (.slice a2 len2 cap2)))
  have L1 := hide ((Blk.new w (exC n1 (.slice a1 len1 cap1)) 29).alloc (exO n2 (.slice a2 len2 cap2)))
  have L2 := hide (Blk.new1 w (exO n1 (.slice a1 len1 cap1)) (exC n2 (.slice a2 len2 cap2)) 29)
  have S1 := hide (fun w' (h : Below w.heap.size w w') => rsize_any (.mk n1 ks) _ w' (t1.step h))
  have S2 := hide (fun w' (h : Below w.heap.size w w') => rsize_any (.mk n2 ls) _ w' (t2.step h))
  have HE := hide (fun w' (h : Below w.heap.size w w') => eq_any (.mk n1 ks) (.mk n2 ls) _ _ w' (t1.step h) (t2.step h))
  cases q1 : fitB (.mk n1 ks)
  · have z1 := size_nle q1
    generalize sizeR (.mk n1 ks) = X1 at *
    generalize sizeR (.mk n2 ls) = X2 at *
    clear t1 t2 HE q1
    go_enter Try.func21, Try.ntmps21
    go_wp2_with (first
      | (refine wpList_load_blk rfl 29 _ rfl _ rfl _ (by with_reducible exact L1.out) _ Try.underlying29 rfl (exC_info _ _) ?_)
      | (go_at_call 8; have bb := bel.out; refine (S1.out _ bb).mono ?_; rintro e w1 ⟨rfl, hb⟩; have b1 := hide (next bb hb); have M2 := hide (L2.out.keep hb); clear hb bb bel)
      | (refine wpList_load_blk rfl 29 _ rfl _ rfl _ (by with_reducible exact M2.out) _ Try.underlying29 rfl (exC_info _ _) ?_)
      | (go_at_call 8; refine (S2.out _ b1.out).mono ?_; rintro e w2 ⟨rfl, hb⟩; have b2 := hide (next b1.out hb); clear hb))
    go_ret
    exact ⟨rfl, b2.out⟩
  · have z1 := size_le q1
    cases q2 : fitB (.mk n2 ls)
    · have z2 := size_nle q2
      generalize sizeR (.mk n1 ks) = X1 at *
      generalize sizeR (.mk n2 ls) = X2 at *
      clear t1 t2 HE q1 q2
      go_enter Try.func21, Try.ntmps21
      go_wp2_with (first
        | (refine wpList_load_blk rfl 29 _ rfl _ rfl _ (by with_reducible exact L1.out) _ Try.underlying29 rfl (exC_info _ _) ?_)
        | (go_at_call 8; have bb := bel.out; refine (S1.out _ bb).mono ?_; rintro e w1 ⟨rfl, hb⟩; have b1 := hide (next bb hb); have M2 := hide (L2.out.keep hb); clear hb bb bel)
        | (refine wpList_load_blk rfl 29 _ rfl _ rfl _ (by with_reducible exact M2.out) _ Try.underlying29 rfl (exC_info _ _) ?_)
        | (go_at_call 8; refine (S2.out _ b1.out).mono ?_; rintro e w2 ⟨rfl, hb⟩; have b2 := hide (next b1.out hb); clear hb))
      go_ret
      exact ⟨rfl, b2.out⟩
    · have z2 := size_le q2
      generalize sizeR (.mk n1 ks) = X1 at *
      generalize sizeR (.mk n2 ls) = X2 at *
      generalize sameE (.mk n1 ks) (.mk n2 ls) = sm at *
      clear t1 t2 q1 q2
      go_enter Try.func21, Try.ntmps21
      go_wp2_with (first
        | (refine wpList_load_blk rfl 29 _ rfl _ rfl _ (by with_reducible exact L1.out) _ Try.underlying29 rfl (exC_info _ _) ?_)
        | (go_at_call 8; have bb := bel.out; refine (S1.out _ bb).mono ?_; rintro e w1 ⟨rfl, hb⟩; have b1 := hide (next bb hb); have M1 := hide (L1.out.keep hb); have M2 := hide (L2.out.keep hb); clear hb bb bel)
        | (refine wpList_load_blk rfl 29 _ rfl _ rfl _ (by with_reducible exact M2.out) _ Try.underlying29 rfl (exC_info _ _) ?_)
        | (go_at_call 8; refine (S2.out _ b1.out).mono ?_; rintro e w2 ⟨rfl, hb⟩; have b2 := hide (next b1.out hb); have K1 := hide (M1.out.keep hb); have K2 := hide (M2.out.keep hb); clear hb)
        | (refine wpList_load_blk_g rfl 29 _ rfl _ rfl _ (by with_reducible exact K1.out) _ Try.underlying29 rfl (exC_info _ _) ?_)
        | (refine wpList_load_blk_g rfl 29 _ rfl _ rfl _ (by with_reducible exact K2.out) _ Try.underlying29 rfl (exC_info _ _) ?_)
        | (go_at_call 12; refine (HE.out _ b2.out).mono ?_; rintro e w3 ⟨rfl, hb⟩; have b3 := hide (next b2.out hb); clear hb))
      go_ret
      exact ⟨by simp, b3.out⟩
set_option maxHeartbeats 1000000 in
set_option maxRecDepth 100000 in
theorem rcopy_any (t : Ex) (v : Value) (w : World) (ht : Tree w v t) : Calls Try.prog 22 #[v] w fun e w' => CopyP w t e w' := by
  obtain ⟨nd, ks⟩ := t
  obtain ⟨a, len, cap, rfl, _, _, _, _⟩ := ht.un
  have bel : Below w.heap.size w ((w.alloc (exO nd (.slice a len cap))).alloc (exO nd0 (.slice none 0 0))) := step (step (Below.refl _ w) _) _
  have P0 := hide ((Blk.new w (exC nd (.slice a len cap)) 29).alloc (exO nd0 (.slice none 0 0)))
  have P1 := hide (Blk.new1 w (exO nd (.slice a len cap)) (exC nd0 (.slice none 0 0)) 29)
  have HG := hide (rsize_any (.mk nd ks) (exV nd (.slice a len cap)) _ (ht.step bel))
  have HC := hide (fun w' (h : Below w.heap.size w w') hn => rown_any (.mk nd ks) (exV nd (.slice a len cap)) w' (ht.step h) hn)
  replace bel := hide bel
  clear ht
  cases q : fitB (.mk nd ks)
  · have z1 := size_great q
    have q' := hide q
    generalize sizeR (.mk nd ks) = X at *
    clear q HC
    go_enter Try.func22, Try.ntmps22
    go_wp2_with (first
      | (refine wpList_load_blk rfl 29 _ rfl _ rfl _ P0.out _ Try.underlying29 rfl (exC_info _ _) ?_)
      | (go_at_call 8; refine HG.out.mono ?_; rintro e w1 ⟨rfl, hb1⟩; have N1 := hide (P1.out.keep hb1); replace hb1 := hide (next bel.out hb1))
      | (have hn1 := N1.out; refine wpList_store_row rfl 29 _ _ rfl _ (exC nd0 (.slice none 0 0)) rfl rfl 29 _ hn1 (exC_info nd0 (.slice none 0 0)) (by rfl) (exC_one nd0 none 0 0) ?_))
    have hrl := run_blk (N1.out.setRow (cs := exC nd0 (.slice none 0 0))) rfl
    refine bodyPost_ret (v := .tuple #[exV nd0 (.slice none 0 0), .int .i64 2]) (by simp [results, Try.results22, asAddr, hrl]; try rfl) rfl ?_
    exact .inl ⟨q'.out, rfl, below_setRow hb1.out (by simp) _⟩
  · have hn := (of_decide_eq_true q).1
    have z1 := size_fine q
    have q' := hide q
    have hnd : (Ex.mk nd ks).nd = nd := rfl
    generalize sizeR (.mk nd ks) = X at *
    clear q
    go_enter Try.func22, Try.ntmps22
    go_wp2_with (first
      | (refine wpList_load_blk rfl 29 _ rfl _ rfl _ P0.out _ Try.underlying29 rfl (exC_info _ _) ?_)
      | (go_at_call 8; refine HG.out.mono ?_; rintro e w1 ⟨rfl, hb1⟩; have N1 := hide (P1.out.keep hb1); have R0 := hide (P0.out.keep hb1); replace hb1 := hide (next bel.out hb1))
      | (refine wpList_load_blk rfl 29 _ rfl _ rfl _ (by with_reducible exact R0.out) _ Try.underlying29 rfl (exC_info _ _) ?_)
      | (go_at_call 39; refine (HC.out _ hb1.out hn).mono ?_; rintro e w2 ⟨ak, lk, ck, bs, rfl, hN, hb2, _⟩; have N2 := hide (N1.out.keep hb2); have hsr := run_putrow nd ak lk ck N2.out rfl; replace hb2 := hide (next hb1.out hb2); replace hN := hide hN))
    have hrl := run_blk (N2.out.setRow (cs := exC nd (.slice ak lk ck))) rfl
    refine bodyPost_ret (v := .tuple #[exV nd (.slice ak lk ck), .int .i64 0]) (by simp [results, Try.results22, asAddr, hrl]; try rfl) rfl ?_
    refine .inr ⟨q'.out, _, _, _, bs, rfl, ⟨hN.out.ow.move _ (fun k hk => setRow_other _ _ _ _ (by have := (hN.out.at' k hk).1; have := N1.out.lt; omega)), hN.out.nd, fun k hk => by rw [size_setRow]; have := hN.out.at' k hk; have := hb1.out.size; omega⟩, below_setRow hb2.out (by simp) _⟩
end Go.Proofs.Ytgopolelpckjcaa
