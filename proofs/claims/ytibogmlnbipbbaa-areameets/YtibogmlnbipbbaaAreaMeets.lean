/- The law AreaMeets returns true for every two areas and every place, and changes nothing that was there. -/
import Derived.Test.YtibogmlnbipbbaaMeetsN
import Derived.Test.YtibogmlnbipbbaaMeetsY
namespace Go.Proofs.Ytibogmlnbipbbaa
open Go.RowKit Go.Sort
set_option linter.unusedVariables false

theorem hasIs (t l b r x y : Int) {v : Bool} (h : hasB t l b r x y = v) : CallIs 14 #[areaV t l b r, spotV x y] (.bool v) := by
  have := ahas_any t l b r x y
  rw [h] at this
  exact hide this
theorem areaMeets_walk (t l b r t' l' b' r' x y : Int) (w : World) :
    Calls Try.prog 5 #[areaV t l b r, areaV t' l' b' r', spotV x y] w fun e w' => e = .returned (.bool true) ∧ Below w.heap.size w w' := by
  by_cases h : metB t l b r t' l' b' r'
  · have h' : metB t' l' b' r' t l b r := by unfold metB at h ⊢; omega
    have HM := ameet_yes _ _ _ _ _ _ _ _ h
    have HW := ameet_yes _ _ _ _ _ _ _ _ h'
    rw [Int.max_comm t' t, Int.max_comm l' l, Int.min_comm b' b, Int.min_comm r' r] at HW
    obtain ⟨h1, h2, h3, h4⟩ := h
    have k : okA (max t t') (max l l') (min b b') (min r r') = true := okA_iff.2 (by omega)
    have HD := mayIs_ok (okA_iff.1 k)
    have H1 := hasIs t l b r (max t t') (max l l') (hasB_yes (okA_iff.2 h1) (by omega))
    have H2 := hasIs t' l' b' r' (max t t') (max l l') (hasB_yes (okA_iff.2 h2) (by omega))
    have H3 := hasIs t l b r (min b b') (min r r') (hasB_yes (okA_iff.2 h1) (by omega))
    have H4 := hasIs t' l' b' r' (min b b') (min r r') (hasB_yes (okA_iff.2 h2) (by omega))
    by_cases ha : t ≤ x ∧ x ≤ b ∧ l ≤ y ∧ y ≤ r
    · have HA := hasIs t l b r x y (hasB_yes (okA_iff.2 h1) ha)
      by_cases hb : t' ≤ x ∧ x ≤ b' ∧ l' ≤ y ∧ y ≤ r'
      · exact meets_y3 t l b r t' l' b' r' _ _ _ _ x y w begunIs HM HW HA (hasIs t' l' b' r' x y (hasB_yes (okA_iff.2 h2) hb)) (hasIs _ _ _ _ x y (hasB_yes k (by omega))) HD H1 H2 H3 H4
      · exact meets_y2 t l b r t' l' b' r' _ _ _ _ x y w begunIs HM HW HA (hasIs t' l' b' r' x y (hasB_no hb)) (hasIs _ _ _ _ x y (hasB_no (by omega))) HD H1 H2 H3 H4
    · exact meets_y1 t l b r t' l' b' r' _ _ _ _ x y w begunIs HM HW (hasIs t l b r x y (hasB_no ha)) (hasIs _ _ _ _ x y (hasB_no (by omega))) HD H1 H2 H3 H4
  · have h' : ¬ metB t' l' b' r' t l b r := by unfold metB at h ⊢; omega
    have HM := ameet_no _ _ _ _ _ _ _ _ h
    have HW := ameet_no _ _ _ _ _ _ _ _ h'
    unfold metB at h
    cases ha : hasB t l b r x y
    · cases hm : hasB 0 0 0 0 x y
      · exact meets_n1f t l b r t' l' b' r' x y w begunIs HM HW (hasIs _ _ _ _ _ _ ha) (hasIs _ _ _ _ _ _ hm)
      · exact meets_n1t t l b r t' l' b' r' x y w begunIs HM HW (hasIs _ _ _ _ _ _ ha) (hasIs _ _ _ _ _ _ hm)
    · have hb : hasB t' l' b' r' x y = false := by
        cases hb : hasB t' l' b' r' x y
        · rfl
        · unfold hasB at ha hb
          simp only [Bool.and_eq_true, decide_eq_true_eq, okA_iff] at ha hb
          omega
      cases hm : hasB 0 0 0 0 x y
      · exact meets_n2f t l b r t' l' b' r' x y w begunIs HM HW (hasIs _ _ _ _ _ _ ha) (hasIs _ _ _ _ _ _ hb) (hasIs _ _ _ _ _ _ hm)
      · exact meets_n2t t l b r t' l' b' r' x y w begunIs HM HW (hasIs _ _ _ _ _ _ ha) (hasIs _ _ _ _ _ _ hb) (hasIs _ _ _ _ _ _ hm)
end Go.Proofs.Ytibogmlnbipbbaa
