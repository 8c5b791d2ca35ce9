/- Which nodes there may be, written out. -/
import Derived.Test.YtnikmbkkhfmbeaaPartsN9
namespace Go.Proofs.Ytnikmbkkhfmbeaa
open Go.RowKit
set_option linter.unusedVariables false

abbrev rf0 : Rf := ⟨0, 0, false, false⟩
theorem ndB_eq {a b : Nd} (h : ndB a b = true) : a = b := by
  obtain ⟨k, o, n, t, ⟨r1, r2, r3, r4⟩, ⟨s1, s2, s3, s4⟩, f⟩ := a
  obtain ⟨k', o', n', t', ⟨r1', r2', r3', r4'⟩, ⟨s1', s2', s3', s4'⟩, f'⟩ := b
  simp only [ndB, rfB, Bool.and_eq_true, decide_eq_true_eq] at h
  simp only [Nd.mk.injEq, Rf.mk.injEq]
  simp_all
abbrev nd00 : Nd := ⟨0, 0, 0, no, ⟨0, 0, false, false⟩, ⟨0, 0, false, false⟩, 0⟩
theorem told_rest {nd : Nd} {len : Nat} (h : toldB nd len = true) : okOf nd len = true ∧ leftOf nd len = 0 ∧ restOf nd = nd00 := by
  unfold toldB at h
  rw [Bool.and_eq_true, Bool.and_eq_true] at h
  exact ⟨h.1.1, of_decide_eq_true h.1.2, ndB_eq h.2⟩
theorem shape7 {nd : Nd} {len : Nat} (h : toldB nd len = true) (hk : nd.kind = 7) : nd = ⟨7, nd.op, 0, no, rf0, rf0, 0⟩ ∧ 1 ≤ nd.op ∧ nd.op ≤ 3 ∧ len = 1 := by
  obtain ⟨kind, op, num, text, ref, tt0, fn⟩ := nd
  simp only at hk; subst hk
  obtain ⟨h1, h2, h3⟩ := told_rest h
  have h3 : (⟨0, 0, num, text, ref, tt0, fn⟩ : Nd) = nd00 := h3
  injection h3 with _ _ e1 e2 e3 e4 e5
  subst e1 e2 e3 e4 e5
  have := of_decide_eq_true (show decide (1 ≤ op ∧ op ≤ 3 ∧ len = 1) = true from h1)
  exact ⟨rfl, this⟩
theorem shape8 {nd : Nd} {len : Nat} (h : toldB nd len = true) (hk : nd.kind = 8) : nd = ⟨8, nd.op, 0, no, rf0, rf0, 0⟩ ∧ 1 ≤ nd.op ∧ nd.op ≤ 12 ∧ len = 2 := by
  obtain ⟨kind, op, num, text, ref, tt0, fn⟩ := nd
  simp only at hk; subst hk
  obtain ⟨h1, h2, h3⟩ := told_rest h
  have h3 : (⟨0, 0, num, text, ref, tt0, fn⟩ : Nd) = nd00 := h3
  injection h3 with _ _ e1 e2 e3 e4 e5
  subst e1 e2 e3 e4 e5
  have := of_decide_eq_true (show decide (1 ≤ op ∧ op ≤ 12 ∧ len = 2) = true from h1)
  exact ⟨rfl, this⟩
theorem shape9 {nd : Nd} {len : Nat} (h : toldB nd len = true) (hk : nd.kind = 9) : nd = ⟨9, 0, 0, no, rf0, rf0, nd.fn⟩ ∧ takesB nd.fn len = true := by
  obtain ⟨kind, op, num, text, ref, tt0, fn⟩ := nd
  simp only at hk; subst hk
  obtain ⟨h1, h2, h3⟩ := told_rest h
  have h3 : (⟨0, op, num, text, ref, tt0, 0⟩ : Nd) = nd00 := h3
  injection h3 with _ e0 e1 e2 e3 e4 _
  subst e0 e1 e2 e3 e4
  exact ⟨rfl, h1⟩
theorem shape1 {nd : Nd} {len : Nat} (h : toldB nd len = true) (hk : nd.kind = 1) : nd = ⟨1, 0, nd.num, no, rf0, rf0, 0⟩ ∧ 0 ≤ nd.num ∧ len = 0 := by
  obtain ⟨kind, op, num, text, ref, tt0, fn⟩ := nd
  simp only at hk; subst hk
  obtain ⟨h1, h2, h3⟩ := told_rest h
  have h3 : (⟨0, op, 0, text, ref, tt0, fn⟩ : Nd) = nd00 := h3
  injection h3 with _ e0 _ e2 e3 e4 e5
  subst e0 e2 e3 e4 e5
  exact ⟨rfl, of_decide_eq_true h1, h2⟩
theorem shape2 {nd : Nd} {len : Nat} (h : toldB nd len = true) (hk : nd.kind = 2) : nd = ⟨2, 0, 0, nd.text, rf0, rf0, 0⟩ ∧ len = 0 := by
  obtain ⟨kind, op, num, text, ref, tt0, fn⟩ := nd
  simp only at hk; subst hk
  obtain ⟨h1, h2, h3⟩ := told_rest h
  have h3 : (⟨0, op, num, no, ref, tt0, fn⟩ : Nd) = nd00 := h3
  injection h3 with _ e0 e1 _ e3 e4 e5
  subst e0 e1 e3 e4 e5
  exact ⟨rfl, h2⟩
theorem shape3 {nd : Nd} {len : Nat} (h : toldB nd len = true) (hk : nd.kind = 3) : nd = ⟨3, 0, nd.num, no, rf0, rf0, 0⟩ ∧ (nd.num = 0 ∨ nd.num = 1) ∧ len = 0 := by
  obtain ⟨kind, op, num, text, ref, tt0, fn⟩ := nd
  simp only at hk; subst hk
  obtain ⟨h1, h2, h3⟩ := told_rest h
  have h3 : (⟨0, op, 0, text, ref, tt0, fn⟩ : Nd) = nd00 := h3
  injection h3 with _ e0 _ e2 e3 e4 e5
  subst e0 e2 e3 e4 e5
  exact ⟨rfl, of_decide_eq_true h1, h2⟩
theorem shape4 {nd : Nd} {len : Nat} (h : toldB nd len = true) (hk : nd.kind = 4) : nd = ⟨4, 0, nd.num, no, rf0, rf0, 0⟩ ∧ (1 ≤ nd.num ∧ nd.num ≤ 6) ∧ len = 0 := by
  obtain ⟨kind, op, num, text, ref, tt0, fn⟩ := nd
  simp only at hk; subst hk
  obtain ⟨h1, h2, h3⟩ := told_rest h
  have h3 : (⟨0, op, 0, text, ref, tt0, fn⟩ : Nd) = nd00 := h3
  injection h3 with _ e0 _ e2 e3 e4 e5
  subst e0 e2 e3 e4 e5
  exact ⟨rfl, of_decide_eq_true h1, h2⟩
theorem shape5 {nd : Nd} {len : Nat} (h : toldB nd len = true) (hk : nd.kind = 5) : nd = ⟨5, 0, 0, no, nd.ref, rf0, 0⟩ ∧ mayB nd.ref.row nd.ref.col = true ∧ len = 0 := by
  obtain ⟨kind, op, num, text, ref, tt0, fn⟩ := nd
  simp only at hk; subst hk
  obtain ⟨h1, h2, h3⟩ := told_rest h
  have h3 : (⟨0, op, num, text, ⟨0, 0, false, false⟩, tt0, fn⟩ : Nd) = nd00 := h3
  injection h3 with _ e0 e1 e2 _ e4 e5
  subst e0 e1 e2 e4 e5
  exact ⟨rfl, h1, h2⟩
theorem shape6 {nd : Nd} {len : Nat} (h : toldB nd len = true) (hk : nd.kind = 6) : nd = ⟨6, 0, 0, no, nd.ref, nd.to, 0⟩ ∧ mayB nd.ref.row nd.ref.col = true ∧ mayB nd.to.row nd.to.col = true ∧ len = 0 := by
  obtain ⟨kind, op, num, text, ref, tt0, fn⟩ := nd
  simp only at hk; subst hk
  obtain ⟨h1, h2, h3⟩ := told_rest h
  have h3 : (⟨0, op, num, text, ⟨0, 0, false, false⟩, ⟨0, 0, false, false⟩, fn⟩ : Nd) = nd00 := h3
  injection h3 with _ e0 e1 e2 _ _ e5
  subst e0 e1 e2 e5
  have h1 : (mayB ref.row ref.col && mayB tt0.row tt0.col) = true := h1
  rw [Bool.and_eq_true] at h1
  exact ⟨rfl, h1.1, h1.2, h2⟩
theorem told_kind {nd : Nd} {len : Nat} (h : toldB nd len = true) : nd.kind = 1 ∨ nd.kind = 2 ∨ nd.kind = 3 ∨ nd.kind = 4 ∨ nd.kind = 5 ∨ nd.kind = 6 ∨ nd.kind = 7 ∨ nd.kind = 8 ∨ nd.kind = 9 := by
  have h1 := (told_rest h).1
  unfold okOf at h1
  by_cases k1 : nd.kind = 1
  · exact .inl k1
  by_cases k2 : nd.kind = 2
  · exact .inr (.inl k2)
  by_cases k3 : nd.kind = 3
  · exact .inr (.inr (.inl k3))
  by_cases k4 : nd.kind = 4
  · exact .inr (.inr (.inr (.inl k4)))
  by_cases k5 : nd.kind = 5
  · exact .inr (.inr (.inr (.inr (.inl k5))))
  by_cases k6 : nd.kind = 6
  · exact .inr (.inr (.inr (.inr (.inr (.inl k6)))))
  by_cases k7 : nd.kind = 7
  · exact .inr (.inr (.inr (.inr (.inr (.inr (.inl k7))))))
  by_cases k8 : nd.kind = 8
  · exact .inr (.inr (.inr (.inr (.inr (.inr (.inr (.inl k8)))))))
  by_cases k9 : nd.kind = 9
  · exact .inr (.inr (.inr (.inr (.inr (.inr (.inr (.inr k9)))))))
  rw [if_neg k1, if_neg k2, if_neg k3, if_neg k4, if_neg k5, if_neg k6, if_neg k7, if_neg k8, if_neg k9] at h1
  cases h1
end Go.Proofs.Ytnikmbkkhfmbeaa
