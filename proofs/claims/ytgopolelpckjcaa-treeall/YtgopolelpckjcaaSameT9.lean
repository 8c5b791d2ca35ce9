/- tree.Same: what it answers of every two trees. -/
import Derived.Test.YtgopolelpckjcaaKit9b
namespace Go.Proofs.Ytgopolelpckjcaa
open Go.RowKit Go.Sort
set_option linter.unusedVariables false

set_option maxHeartbeats 1000000 in
set_option maxRecDepth 100000 in
theorem same_any (t u : Ex) (v1 v2 : Value) (w : World) (t1 : Tree w v1 t) (t2 : Tree w v2 u) :
    Calls Try.prog 16 #[v1, v2] w fun e w' => e = .returned (.bool (fitB t && fitB u && sameE t u)) ∧ Below w.heap.size w w' := by
  obtain ⟨n1, ks⟩ := t
  obtain ⟨n2, ls⟩ := u
  obtain ⟨a1, len1, cap1, rfl, _, _, _, _⟩ := t1.un
  obtain ⟨a2, len2, cap2, rfl, _, _, _, _⟩ := t2.un
  have bel : Below w.heap.size w ((w.alloc (exO n1 (.slice a1 len1 cap1))).alloc (exO n2 (.slice a2 len2 cap2))) := step (step (Below.refl _ w) _) _
  have L1 := hide ((Blk.new w (exC n1 (.slice a1 len1 cap1)) 29).alloc (exO n2 (.slice a2 len2 cap2)))
  have L2 := hide (Blk.new1 w (exO n1 (.slice a1 len1 cap1)) (exC n2 (.slice a2 len2 cap2)) 29)
  have G1 := hide (great_any (.mk n1 ks) (exV n1 (.slice a1 len1 cap1)) _ (t1.step bel))
  have G2 := hide (fun w h => great_any (.mk n2 ls) (exV n2 (.slice a2 len2 cap2)) w h)
  have HI := hide (fun B w => isSame_any B (.mk n1 ks) (.mk n2 ls) (exV n1 (.slice a1 len1 cap1)) (exV n2 (.slice a2 len2 cap2)) w)
  replace t1 := hide t1
  replace t2 := hide t2
  replace bel := hide bel
  cases q1 : fitB (.mk n1 ks)
  · rw [q1] at G1
    go_enter Try.func16, Try.ntmps16
    go_wp2_with (first
      | (refine wpList_load_blk rfl 29 _ rfl _ rfl _ L1.out _ Try.underlying29 rfl (exC_info _ _) ?_)
      | (go_at_call 24; refine G1.out.mono ?_; rintro e w1 ⟨rfl, hb1⟩; replace hb1 := hide (next bel.out hb1)))
    go_ret
    exact ⟨rfl, hb1.out⟩
  · rw [q1] at G1
    cases q2 : fitB (.mk n2 ls)
    · rw [q2] at G2
      go_enter Try.func16, Try.ntmps16
      go_wp2_with (first
        | (refine wpList_load_blk rfl 29 _ rfl _ rfl _ L1.out _ Try.underlying29 rfl (exC_info _ _) ?_)
        | (refine wpList_load_blk_g rfl 29 _ rfl _ rfl _ M2.out _ Try.underlying29 rfl (exC_info _ _) ?_)
        | (go_at_call 24; refine G1.out.mono ?_; rintro e w1 ⟨rfl, hb1⟩; have M1 := hide (L1.out.keep hb1); have M2 := hide (L2.out.keep hb1); replace hb1 := hide (next bel.out hb1); replace G1 := trivial)
        | (go_at_call 24; refine (G2.out w1 (t2.out.step hb1.out)).mono ?_; rintro e w2 ⟨rfl, hb2⟩; have O1 := hide (M1.out.keep hb2); have O2 := hide (M2.out.keep hb2); replace hb2 := hide (next hb1.out hb2)))
      go_ret
      exact ⟨rfl, hb2.out⟩
    · rw [q2] at G2
      go_enter Try.func16, Try.ntmps16
      go_wp2_with (first
        | (refine wpList_load_blk rfl 29 _ rfl _ rfl _ R1.out _ Try.underlying29 rfl (exC_info _ _) ?_)
        | (refine wpList_load_blk rfl 29 _ rfl _ rfl _ R2.out _ Try.underlying29 rfl (exC_info _ _) ?_)
        | (refine wpList_load_blk rfl 29 _ rfl _ rfl _ L1.out _ Try.underlying29 rfl (exC_info _ _) ?_)
        | (refine wpList_load_blk_g rfl 29 _ rfl _ rfl _ M2.out _ Try.underlying29 rfl (exC_info _ _) ?_)
        | (go_at_call 24; refine G1.out.mono ?_; rintro e w1 ⟨rfl, hb1⟩; have M1 := hide (L1.out.keep hb1); have M2 := hide (L2.out.keep hb1); replace hb1 := hide (next bel.out hb1); replace G1 := trivial)
        | (go_at_call 24; refine (G2.out w1 (t2.out.step hb1.out)).mono ?_; rintro e w2 ⟨rfl, hb2⟩; have O1 := hide (M1.out.keep hb2); have O2 := hide (M2.out.keep hb2); replace hb2 := hide (next hb1.out hb2); have R1 := hide (O1.out.alloc (.cells #[isV w2.heap.size] 44)); have R2 := hide (O2.out.alloc (.cells #[isV w2.heap.size] 44)))
        | (go_at_call 33; refine (HI.out _ _ (t1.out.step (step hb2.out _)) (t2.out.step (step hb2.out _)) (Blk.new _ _ _)).mono ?_; rintro e w3 ⟨rfl, hb3⟩; replace hb3 := hide (next (step hb2.out _) hb3)))
      go_ret
      exact ⟨rfl, hb3.out⟩
end Go.Proofs.Ytgopolelpckjcaa
