/- TreeTurned: text changed. -/
import Derived.Test.YtdegfmebgllklaaTurnK9
namespace Go.Proofs.Ytdegfmebgllklaa
open Go.RowKit Go.Sort
set_option linter.unusedVariables false

set_option maxHeartbeats 1000000 in
set_option maxRecDepth 100000 in
theorem turned_text (nd : Nd) (ks : List Ex) (v : Value) (q n : Int) (w : World) (ht : Tree w v (.mk nd ks)) (hm : mayR (.mk nd ks) = 0) (hn0 : n ≠ 0) (hn : -9223372036854775808 ≤ n ∧ n ≤ 9223372036854775807) (hq : 0 ≤ q ∧ q ≤ 255) (hq6 : q % 6 = 2) :
    Calls Try.prog 7 #[v, .int .u8 q, .int .i64 n] w fun e w' => e = .returned (.bool true) ∧ Below w.heap.size w w' := by
  obtain ⟨a, len, cap, rfl, hln, _, _, _⟩ := ht.un
  obtain ⟨hf, ha⟩ := mayR_zero hm
  have hsm := ht.sm
  have hself := sameE_self (.mk nd ks)
  have hno := (of_decide_eq_true hf).1
  have htold := allE_told ha
  have hshort := hide (told_text hf htold)
  have P0 := hide (Blk.new w (exC nd (.slice a len cap)) 29)
  have B0 := hide (step (Below.refl w.heap.size w) (exO nd (.slice a len cap)))
  have HG := hide (begun9 (w.alloc (exO nd (.slice a len cap))))
  have H2 := hide (fun v' w' (h : Tree w' v' (.mk nd ks)) => may_any (.mk nd ks) v' w' h)
  rw [hm] at H2
  have HT := hide (fun w' (h : Below w.heap.size w w') => ht.step h)
  have H3 := hide (fun w' (h : Below w.heap.size w w') => copy_any (.mk nd ks) (exV nd (.slice a len cap)) w' (ht.step h))
  have H4 := hide (fun v1 v2 w' (h1 : Tree w' v1 (.mk nd ks)) (h2 : Tree w' v2 (.mk nd ks)) => same_any (.mk nd ks) (.mk nd ks) v1 v2 w' h1 h2)
  rw [hf, hself] at H4
  have H5 := hide (fun w' (h : Below w.heap.size w w') => lown_any nd ks (exV nd (.slice a len cap)) w' (ht.step h) hno)
  have hnt : Hid (fitB (.mk nd ks) = true) := hide hf
  have hkl : Hid (ks.length ≤ 1000000 ∧ ks.length < 1000000) := hide (by have := len_nodes ks; rw [nodesE] at hno; omega)
  replace hsm := hide hsm
  replace hn := hide hn
  replace ha := hide ha
  replace htold := hide htold
  obtain ⟨X, hX⟩ : ∃ X, nd.text ++ ({ data := #[63] } : ByteArray) = X := ⟨_, rfl⟩
  have hXz : Hid (X.size = nd.text.size + 1) := hide (by rw [← hX, ByteArray.size_append]; rfl)
  have hXn : Hid (X ≠ nd.text) := hide (fun e => by have := hXz.out; rw [e] at this; omega)
  have hsame1 : sameE (.mk nd ks) (.mk { nd with text := X } ks) = false := sameE_nd _ _ (ndB_text (fun e => hXn.out e.symm))
  have hsame2 : sameE (.mk { nd with text := X } ks) (.mk nd ks) = false := sameE_nd _ _ (ndB_text (fun e => hXn.out e))
  have S1 := hide (fun s w' (h1 : Tree w' (exV nd (.slice a len cap)) (.mk nd ks)) (h2 : Tree w' (exV { nd with text := X } s) (.mk { nd with text := X } ks)) => same_any (.mk nd ks) (.mk { nd with text := X } ks) _ _ w' h1 h2)
  have S2 := hide (fun s w' (h1 : Tree w' (exV nd (.slice a len cap)) (.mk nd ks)) (h2 : Tree w' (exV { nd with text := X } s) (.mk { nd with text := X } ks)) => same_any (.mk { nd with text := X } ks) (.mk nd ks) _ _ w' h2 h1)
  simp only [hsame1, hsame2, Bool.and_false] at S1 S2
  have HM := hide (fun s w' (h : Tree w' (exV { nd with text := X } s) (.mk { nd with text := X } ks)) => may_any (.mk { nd with text := X } ks) _ w' h)
  have hbad : Hid (nd.kind ≠ 2 → mayR (.mk { nd with text := X } ks) = 22 ∨ mayR (.mk { nd with text := X } ks) = 2) := hide (fun k2 => mayR_bad (allE_not (turn_text htold.out k2 hXn.out ks.length)))
  replace hX := hide hX
  obtain ⟨m, hm'⟩ : ∃ m, mayR (.mk { nd with text := X } ks) = m := ⟨_, rfl⟩
  rw [hm'] at HM hbad
  clear ht hln hm hself hno hf hsame1 hsame2 hm'
  go_enter Try.func7, Try.ntmps7
  try simp only [List.append]
  go_wp2_with (first
    | (go_at_call 9; refine HG.out.mono ?_; rintro e w0 ⟨rfl, hb⟩; have Q0 := hide (P0.out.keep hb); have b0 := hide (next B0.out hb); clear hb)
    | (refine wpList_load_blk rfl 29 _ rfl _ rfl _ (by with_reducible exact Q0.out) _ Try.underlying29 rfl (exC_info _ _) ?_)
    | (go_at_call 17; refine (H2.out _ _ (HT.out _ b0.out)).mono ?_; rintro e w1 ⟨rfl, hb⟩; have Q1 := hide (Q0.out.keep hb); have b1 := hide (next b0.out hb); clear hb b0 Q0)
    | (refine wpList_load_blk rfl 29 _ rfl _ rfl _ (by with_reducible exact Q1.out) _ Try.underlying29 rfl (exC_info _ _) ?_)
    | (go_at_call 13; refine (H3.out _ b1.out).mono ?_; rintro e w2 (⟨hx, _⟩ | ⟨_, a1, l1, c1, bs, rfl, hN, hb⟩); (exact absurd hx (by rw [hnt.out]; exact Bool.noConfusion)); have hsn := run_putnew w2 nd a1 l1 c1; have Q2 := hide ((Q1.out.keep hb).alloc (exO nd (.slice a1 l1 c1))); have C2 := hide (Blk.new w2 (exC nd (.slice a1 l1 c1)) 29); have b2 := hide (step (next b1.out hb) (exO nd (.slice a1 l1 c1))); have Tc := hide ((hN.tree hsm.out).alloc (exO nd (.slice a1 l1 c1))); clear hb b1 Q1 hN; dsimp only [Ex.nd])
    | (refine wpList_load_blk_g rfl 29 _ rfl _ rfl _ (by with_reducible exact Q2.out) _ Try.underlying29 rfl (exC_info _ _) ?_)
    | (refine wpList_load_blk_g rfl 29 _ rfl _ rfl _ (by with_reducible exact C2.out) _ Try.underlying29 rfl (exC_info _ _) ?_)
    | (go_at_call 19; refine (H4.out _ _ _ (HT.out _ b2.out) Tc.out).mono ?_; rintro e w3 ⟨rfl, hb⟩; have Q3 := hide (Q2.out.keep hb); have C3 := hide (C2.out.keep hb); have b3 := hide (next b2.out hb); have Tc3 := hide (Tc.out.step hb); clear hb b2 Q2 C2 Tc)
    | (refine wpList_load_blk_g rfl 29 _ rfl _ rfl _ (by with_reducible exact Q3.out) _ Try.underlying29 rfl (exC_info _ _) ?_)
    | (refine wpList_load_blk_g rfl 29 _ rfl _ rfl _ (by with_reducible exact C3.out) _ Try.underlying29 rfl (exC_info _ _) ?_)
    | (go_at_call 19; refine (H4.out _ _ _ Tc3.out (HT.out _ b3.out)).mono ?_; rintro e w4 ⟨rfl, hb⟩; have Q4 := hide (Q3.out.keep hb); have C4 := hide (C3.out.keep hb); have b4 := hide (next b3.out hb); have Tc4 := hide (Tc3.out.step hb); clear hb b3 Q3 C3 Tc3)
    | (refine wpList_load_blk_g rfl 29 _ rfl _ rfl _ (by with_reducible exact C4.out) _ Try.underlying29 rfl (exC_info _ _) ?_)
    | (refine wpList_load_blk_g rfl 29 _ rfl _ rfl _ (by with_reducible exact Q4.out) _ Try.underlying29 rfl (exC_info _ _) ?_)
    | (go_at_call 17; refine (H2.out _ _ Tc4.out).mono ?_; rintro e w5 ⟨rfl, hb⟩; have Q5 := hide (Q4.out.keep hb); have b5 := hide (next b4.out hb); clear hb b4 Q4 C4 Tc4)
    | (refine wpList_load_blk_g rfl 29 _ rfl _ rfl _ (by with_reducible exact Q5.out) _ Try.underlying29 rfl (exC_info _ _) ?_))
  have hc : ((nd.kind != 2) = false) ∨ ((nd.kind != 2) = true ∧ (m = 22 ∨ m = 2)) := by
    by_cases k2 : nd.kind = 2
    · exact Or.inl (by simp; omega)
    · exact Or.inr (⟨by simp; omega, hbad.out k2⟩)
  rcases hc with e2 | ⟨e2, rfl | rfl⟩
  all_goals
    refine (H5.out _ b5.out).mono ?_
    rintro e w6 ⟨a2, l2, c2, bs2, rfl, hN, hb, hR⟩
    have hsn6 := run_putnew w6 nd a2 l2 c2
    have Q6 := hide ((Q5.out.keep hb).alloc (exO nd (.slice a2 l2 c2)))
    have U6 := hide (Blk.new w6 (exC nd (.slice a2 l2 c2)) 29)
    have b6 := hide (step (next b5.out hb) (exO nd (.slice a2 l2 c2)))
    have hlt := hide (Nat.lt_of_lt_of_le Q5.out.lt hb.size)
    obtain ⟨w7, hw7⟩ : ∃ w7, (w6.alloc (exO nd (.slice a2 l2 c2))).setCell ⟨w6.heap.size, 3, none⟩ (.string X) = w7 := ⟨_, rfl⟩
    have HX : Hid (Turned w w6 nd { nd with text := X } (.slice a len cap) (.slice a2 l2 c2) (.mk { nd with text := X } ks) w7) := hide (by rw [← hw7]; exact turned_set hN hsm.out (by have := hXz.out; have := hshort.out; show X.size ≤ _; omega) Q6.out b6.out hlt.out (set_text nd (.slice a2 l2 c2) _))
    have U7 := hide HX.out.u
    have Q7 := hide HX.out.q
    have b7 := hide HX.out.b
    have T7 := hide HX.out.t
    have z1 := (U6.out.at' 3).trans (at14 nd (.slice a2 l2 c2)).c3
    have y0 := (Q7.out.at' 0).trans (at14 nd (.slice a len cap)).c0
    have f1 := U6.out.fr 3
    have hXo := hX.out
    clear hb b5 Q5
    dsimp only [Ex.nd]
    go_wp2_with (first
        | (refine wpList_load_blk rfl 29 _ rfl _ rfl _ (by with_reducible exact U7.out) _ Try.underlying29 rfl (exC_info _ _) ?_)
        | (go_at_call 17; refine (HM.out _ _ T7.out).mono ?_; rintro e w8 ⟨rfl, hb⟩; have Q8 := hide (Q7.out.keep hb); have U8 := hide (U7.out.keep hb); have b8 := hide (next b7.out hb); have T8 := hide (T7.out.step hb); clear hb U7 Q7)
        | (refine wpList_load_blk rfl 29 _ rfl _ rfl _ (by with_reducible exact Q8.out) _ Try.underlying29 rfl (exC_info _ _) ?_)
        | (refine wpList_load_blk rfl 29 _ rfl _ rfl _ (by with_reducible exact U8.out) _ Try.underlying29 rfl (exC_info _ _) ?_)
        | (go_at_call 19; refine (S1.out _ _ (HT.out _ b8.out) T8.out).mono ?_; rintro e w9 ⟨rfl, hb⟩; have Q9 := hide (Q8.out.keep hb); have U9 := hide (U8.out.keep hb); have b9 := hide (next b8.out hb); have T9 := hide (T8.out.step hb); clear hb b8 Q8 U8 T8)
        | (refine wpList_load_blk_g rfl 29 _ rfl _ rfl _ (by with_reducible exact Q9.out) _ Try.underlying29 rfl (exC_info _ _) ?_)
        | (refine wpList_load_blk_g rfl 29 _ rfl _ rfl _ (by with_reducible exact U9.out) _ Try.underlying29 rfl (exC_info _ _) ?_)
        | (go_at_call 19; refine (S2.out _ _ (HT.out _ b9.out) T9.out).mono ?_; rintro e w10 ⟨rfl, hb⟩; have b10 := hide (next b9.out hb); clear hb b9 Q9 U9 T9))
    all_goals first
      | (exfalso; have := hshort.out; omega)
      | (go_ret; exact ⟨rfl, b10.out⟩)
end Go.Proofs.Ytdegfmebgllklaa
