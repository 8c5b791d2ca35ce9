/- quadrillelaw9.Kept: a laid tree that was left as it was. -/
import Derived.Test.YtgopolelpckjcaaLay9
import Derived.Test.YtgopolelpckjcaaSpoil9
import Derived.Test.YtgopolelpckjcaaEq9
namespace Go.Proofs.Ytgopolelpckjcaa
open Go.RowKit Go.Sort
set_option linter.unusedVariables false

set_option maxHeartbeats 2000000 in
set_option maxRecDepth 100000 in
theorem kept_any (t u : Ex) (v1 v2 : Value) (w : World) (bs : List Nat) (h1 : Ly w v1 t bs) (hnd : bs.Nodup) (hlt : ∀ x ∈ bs, x < w.heap.size) (hs : SmE t) (hn : nodesE t ≤ 512) (h2 : Tree w v2 u) (hsame : sameE t u = true) :
    Calls Try.prog 17 #[v1, v2] w fun e w' => e = .returned (.bool true) ∧ Chg (· ∈ bs) w w' := by
  obtain ⟨n1, ks⟩ := t
  obtain ⟨n2, ls⟩ := u
  have T1 : Tree w v1 (.mk n1 ks) := (Ly.ow _ h1).in' _ hlt hs
  obtain ⟨a1, len1, cap1, rfl, _, _, _, _⟩ := T1.un
  obtain ⟨a2, len2, cap2, rfl, _, _, _, _⟩ := h2.un
  have bel := hide (step (step (Below.refl w.heap.size w) (exO n1 (.slice a1 len1 cap1))) (exO n2 (.slice a2 len2 cap2)))
  have L1 := hide ((Blk.new w (exC n1 (.slice a1 len1 cap1)) 29).alloc (exO n2 (.slice a2 len2 cap2)))
  have L2 := hide (Blk.new1 w (exO n1 (.slice a1 len1 cap1)) (exC n2 (.slice a2 len2 cap2)) 29)
  have HE := hide (fun w' (h : Below w.heap.size w w') => eq_any (.mk n1 ks) (.mk n2 ls) _ _ w' (T1.step h) (h2.step h))
  rw [hsame] at HE
  have HM := hide (fun w' (h : Below w.heap.size w w') => marked_any (.mk n1 ks) _ w' bs (h1.move _ (fun x hx => h.block x (hlt x hx))) (fun x hx => Nat.lt_of_lt_of_le (hlt x hx) h.size) hn)
  have HS := hide (fun w' (h : Below w.heap.size w w') => spoil_any (.mk n1 ks) _ w' bs (Ly.ow _ (h1.move _ (fun x hx => h.block x (hlt x hx)))) hnd hn)
  clear h1 h2 T1 hsame hs hn hnd hlt
  go_enter Try.func17, Try.ntmps17
  go_wp2_with (first
    | (refine wpList_load_blk rfl 29 _ rfl _ rfl _ (by with_reducible exact L1.out) _ Try.underlying29 rfl (exC_info _ _) ?_)
    | (refine wpList_load_blk rfl 29 _ rfl _ rfl _ (by with_reducible exact L2.out) _ Try.underlying29 rfl (exC_info _ _) ?_)
    | (go_at_call 12; refine (HE.out _ bel.out).mono ?_; rintro e w1 ⟨rfl, hb⟩; have b1 := hide (next bel.out hb); have M1 := hide (L1.out.keep hb); clear hb)
    | (refine wpList_load_blk_g rfl 29 _ rfl _ rfl _ (by with_reducible exact M1.out) _ Try.underlying29 rfl (exC_info _ _) ?_)
    | (go_at_call 36; refine (HM.out _ b1.out).mono ?_; rintro e w2 ⟨rfl, hb⟩; have b2 := hide (next b1.out hb); have M2 := hide (M1.out.keep hb); clear hb)
    | (refine wpList_load_blk rfl 29 _ rfl _ rfl _ (by with_reducible exact M2.out) _ Try.underlying29 rfl (exC_info _ _) ?_)
    | (go_at_call 13; refine (HS.out _ b2.out).mono ?_; rintro e w3 ⟨rfl, h3⟩; have C3 := hide ((Chg.of_below b2.out).trans h3); clear h3))
  go_ret
  exact ⟨rfl, C3.out⟩
end Go.Proofs.Ytgopolelpckjcaa
