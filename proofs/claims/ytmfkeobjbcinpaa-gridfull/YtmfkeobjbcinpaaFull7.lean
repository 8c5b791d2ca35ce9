/- The table that GridFull fills, as a list: 65,536 places, each once. Plain mathematics. -/
import Derived.Test.YtmfkeobjbcinpaaTyp7U
namespace Go.Proofs.Ytmfkeobjbcinpaa
set_option linter.unusedVariables false

def plF (i : Nat) : Sp := ((i : Int) % 1000, (i : Int) / 1000)
def FL : Nat → Tb Int
  | 0 => []
  | i + 1 => insT (FL i) (plF i) ((i : Int) % 256)
theorem plF_inj {i j : Nat} (h : plF i = plF j) : i = j := by unfold plF at h; simp only [Prod.mk.injEq] at h; omega
theorem FL_sorted : ∀ n, SortT (FL n)
  | 0 => List.Pairwise.nil
  | n + 1 => insT_sorted _ _ (FL_sorted n)
theorem FL_has : ∀ (n : Nat) (s : Sp), hasT (FL n) s = true ↔ ∃ i, i < n ∧ s = plF i
  | 0, s => by simp [FL, hasT, getT]
  | n + 1, s => by
    rw [FL, hasT_insT (FL_sorted n), Bool.or_eq_true, decide_eq_true_eq, FL_has n s]
    constructor
    · rintro (h | ⟨i, hi, h⟩)
      · exact ⟨n, by omega, h⟩
      · exact ⟨i, by omega, h⟩
    · rintro ⟨i, hi, h⟩
      by_cases e : i = n
      · subst e; exact .inl h
      · exact .inr ⟨i, by omega, h⟩
theorem FL_new (n : Nat) : hasT (FL n) (plF n) = false := by
  cases h : hasT (FL n) (plF n)
  · rfl
  · obtain ⟨i, hi, e⟩ := (FL_has n _).1 h
    have := plF_inj e
    omega
theorem FL_len : ∀ n, (FL n).length = n
  | 0 => rfl
  | n + 1 => by rw [FL, insT_len (FL_sorted n), FL_new n, FL_len n]; simp
theorem FL_set (k : Nat) (h : k < 65536) : setE (FL k) (plF k) = 0 ∧ setL (FL k) (plF k) ((k : Int) % 256) = FL (k + 1) := by
  have hm : mayB (plF k).1 (plF k).2 = true := mayB_iff.2 (by unfold plF; simp only; omega)
  have e : setE (FL k) (plF k) = 0 := by unfold setE; rw [hm, FL_new k, FL_len]; simp; omega
  exact ⟨e, by unfold setL; rw [e]; rfl⟩
theorem FL_not (n : Nat) (r c : Int) (h : 1000 ≤ r) : hasT (FL n) (r, c) = false := by
  cases hh : hasT (FL n) (r, c)
  · rfl
  · obtain ⟨i, hi, e⟩ := (FL_has n _).1 hh
    unfold plF at e
    simp only [Prod.mk.injEq] at e
    omega
def F1 : Tb Int := FL 65536
def F2 : Tb Int := insT F1 (5, 5) 77
def F3 : Tb Int := delT F2 (0, 0)
def F4 : Tb Int := insT F3 (60000, 9) 1
theorem F1_sorted : SortT F1 := FL_sorted _
theorem F2_sorted : SortT F2 := insT_sorted _ _ F1_sorted
theorem F3_sorted : SortT F3 := delT_sorted _ F2_sorted
theorem F1_len : F1.length = 65536 := FL_len _
theorem F1_5 : hasT F1 (5, 5) = true := (FL_has _ _).2 ⟨5005, by decide, by decide⟩
theorem F1_0 : hasT F1 (0, 0) = true := (FL_has _ _).2 ⟨0, by decide, by decide⟩
theorem F1_6 : hasT F1 (60000, 9) = false := FL_not _ _ _ (by decide)
theorem F2_len : F2.length = 65536 := by unfold F2; rw [insT_len F1_sorted, F1_5, F1_len]; rfl
theorem F2_0 : hasT F2 (0, 0) = true := by unfold F2; rw [hasT_insT F1_sorted, F1_0]; simp
theorem F2_6 : hasT F2 (60000, 9) = false := by unfold F2; rw [hasT_insT F1_sorted, F1_6]; simp
theorem F2_5 : hasT F2 (5, 5) = true := by unfold F2; rw [hasT_insT F1_sorted]; simp
theorem F2_g : (getT F2 (5, 5)).getD 0 = 77 := by unfold F2; rw [getT_insT F1_sorted]; simp
theorem F3_len : F3.length = 65535 := by have := delT_len F2_sorted (0, 0); rw [F2_0, F2_len] at this; unfold F3; simp at this; omega
theorem F3_6 : hasT F3 (60000, 9) = false := by unfold F3; rw [hasT_delT F2_sorted, F2_6]; simp
theorem F3_0 : hasT F3 (0, 0) = false := by unfold F3; rw [hasT_delT F2_sorted]; simp
theorem F4_len : F4.length = 65536 := by unfold F4; rw [insT_len F3_sorted, F3_6, F3_len]; rfl
theorem F4_0 : hasT F4 (0, 0) = false := by unfold F4; rw [hasT_insT F3_sorted, F3_0]; simp
theorem F1_e6 : setE F1 (60000, 9) = 4 := by unfold setE; rw [F1_6, F1_len]; simp [mayB]
theorem F1_l6 (x : Int) : setL F1 (60000, 9) x = F1 := by unfold setL; rw [F1_e6]; simp
theorem F1_e5 : setE F1 (5, 5) = 0 := by unfold setE; rw [F1_5]; simp [mayB]
theorem F1_l5 : setL F1 (5, 5) 77 = F2 := by unfold setL F2; rw [if_pos F1_e5]
theorem F2_e1 : setE F2 (-1, 0) = 10 := by unfold setE; simp [mayB]
theorem F2_l1 (x : Int) : setL F2 (-1, 0) x = F2 := by unfold setL; rw [F2_e1]; simp
theorem F3_e6 : setE F3 (60000, 9) = 0 := by unfold setE; rw [F3_len]; simp [mayB]
theorem F3_l6 : setL F3 (60000, 9) 1 = F4 := by unfold setL F4; rw [if_pos F3_e6]
theorem F4_e0 : setE F4 (0, 0) = 4 := by unfold setE; rw [F4_0, F4_len]; simp [mayB]
theorem F4_l0 (x : Int) : setL F4 (0, 0) x = F4 := by unfold setL; rw [F4_e0]; simp
end Go.Proofs.Ytmfkeobjbcinpaa
