/- What is trimmed is trimmed; capitals and small letters there and back: of no program. -/
import Derived.Test.YtjmdhfopokmhcaaGreatDoorTrim5
namespace Go.Proofs.YtjmdhfopokmhcaaGreatDoor.T5
set_option linter.unusedVariables false
set_option maxRecDepth 100000

/-- No blank at the ends, none beside another. -/
def Good (t : List UInt8) : Prop := ∀ i, i < t.length → t.getD i 0 = 32 → 0 < i ∧ i + 1 < t.length ∧ t.getD (i - 1) 0 ≠ 32
theorem getD_app (t : List UInt8) (r : List UInt8) (i : Nat) (h : i < t.length) : (t ++ r).getD i 0 = t.getD i 0 := by
  simp [List.getD, List.getElem?_append_left h]
theorem getD_end (t : List UInt8) (c : UInt8) (r : List UInt8) : (t ++ c :: r).getD t.length 0 = c := by simp [List.getD]
theorem good_snoc {t : List UInt8} {c : UInt8} (h : Good t) (hc : c ≠ 32) : Good (t ++ [c]) := by
  intro i hi e
  rw [List.length_append, List.length_singleton] at hi
  by_cases hl : i < t.length
  · rw [getD_app _ _ _ hl] at e
    obtain ⟨h1, h2, h3⟩ := h i hl e
    rw [List.length_append, List.length_singleton, getD_app _ _ _ (by omega)]
    exact ⟨h1, by omega, h3⟩
  · obtain rfl : i = t.length := by omega
    rw [getD_end] at e
    exact absurd e hc
theorem good_two {t : List UInt8} {c : UInt8} (h : Good t) (hc : c ≠ 32) (hne : t ≠ []) : Good (t ++ [32, c]) := by
  have hp : 0 < t.length := List.length_pos_iff.2 hne
  intro i hi e
  have hz : (t ++ [32, c]).length = t.length + 2 := by simp
  rw [hz] at hi ⊢
  by_cases hl : i < t.length
  · rw [getD_app _ _ _ hl] at e
    obtain ⟨h1, h2, h3⟩ := h i hl e
    rw [getD_app _ _ _ (by omega)]
    exact ⟨h1, by omega, h3⟩
  · by_cases h2 : i = t.length
    · subst h2
      refine ⟨hp, by omega, ?_⟩
      rw [getD_app _ _ _ (by omega)]
      intro e2
      have := (h _ (by omega) e2).2.1
      omega
    · obtain rfl : i = t.length + 1 := by omega
      have : (t ++ [32, c]).getD (t.length + 1) 0 = c := by simp [List.getD]
      rw [this] at e
      exact absurd e hc
theorem trF_good (l : List UInt8) : Good (trF l).1 ∧ ((trF l).2 = true → (trF l).1 ≠ []) := by
  refine snoc_ind (P := fun l => Good (trF l).1 ∧ ((trF l).2 = true → (trF l).1 ≠ [])) ?_ (fun l c ih => ?_) l
  · exact ⟨fun i hi => by simp [trF] at hi, by simp [trF]⟩
  · rw [trF_snoc]
    unfold trStep
    by_cases hc : c = 32
    · rw [if_pos hc]
      exact ⟨ih.1, fun h e => by simp only at h e; rw [e] at h; simp at h⟩
    · rw [if_neg hc]
      refine ⟨?_, fun h => by simp at h⟩
      cases hb : (trF l).2 with
      | false => simpa using good_snoc ih.1 hc
      | true => simpa using good_two ih.1 hc (ih.2 hb)
theorem take_snoc' (t : List UInt8) (k : Nat) (h : k < t.length) : t.take (k + 1) = t.take k ++ [t.getD k 0] := by
  rw [List.take_succ_eq_append_getElem h]; simp [List.getD, List.getElem?_eq_getElem h]
theorem trF_of_good {t : List UInt8} (h : Good t) : ∀ k, k ≤ t.length → trF (t.take k) = if 0 < k ∧ t.getD (k - 1) 0 = 32 then (t.take (k - 1), true) else (t.take k, false)
  | 0, _ => by simp [trF]
  | k + 1, hk => by
    have ih := trF_of_good h k (by omega)
    have e1 : k + 1 - 1 = k := by omega
    rw [e1, take_snoc' t k (by omega), trF_snoc]
    by_cases hp : 0 < k ∧ t.getD (k - 1) 0 = 32
    · rw [if_pos hp] at ih
      have hc : ¬ t.getD k 0 = 32 := fun hc => (h k (by omega) hc).2.2 hp.2
      have hs : trStep (t.take (k - 1), true) (t.getD k 0) = (t.take (k - 1) ++ ([32] ++ [t.getD k 0]), false) := if_neg hc
      have e2 : t.take k = t.take (k - 1) ++ [32] := by
        have := take_snoc' t (k - 1) (by omega)
        rw [show k - 1 + 1 = k by omega, hp.2] at this
        exact this
      rw [ih, hs, if_neg (fun e => hc e.2), e2, List.append_assoc]
    · rw [if_neg hp] at ih
      rw [ih]
      by_cases hc : t.getD k 0 = 32
      · obtain ⟨h1, h2, h3⟩ := h k (by omega) hc
        have hs : trStep (t.take k, false) (t.getD k 0) = (t.take k, !(t.take k).isEmpty) := if_pos hc
        have : (t.take k).isEmpty = false := by
          rw [List.isEmpty_eq_false_iff]
          intro e
          have := congrArg List.length e
          rw [List.length_take, List.length_nil] at this
          omega
        rw [hs, this, if_pos ⟨by omega, hc⟩]
        rfl
      · have hs : trStep (t.take k, false) (t.getD k 0) = (t.take k ++ ([] ++ [t.getD k 0]), false) := if_neg hc
        rw [hs, if_neg (fun e => hc e.2), List.nil_append]
theorem trim_idem (l : List UInt8) : trimL (trimL l) = trimL l := by
  have hg := (trF_good l).1
  have h := trF_of_good hg (trF l).1.length (Nat.le_refl _)
  rw [List.take_of_length_le (Nat.le_refl _)] at h
  show (trF (trF l).1).1 = _
  rw [h, if_neg]
  · rfl
  · rintro ⟨h1, h2⟩
    have := (hg _ (by omega) h2).2.1
    omega
theorem trimB_idem (s : ByteArray) : trimB (trimB s) = trimB s := by
  unfold trimB
  rw [show (⟨(trimL s.data.toList).toArray⟩ : ByteArray).data.toList = trimL s.data.toList from rfl, trim_idem]
theorem get_getD (t : ByteArray) (i : Nat) (h : i < t.size) : t.data.toList.getD i 0 = t[i] := by
  simp [List.getD, List.getElem?_eq_getElem (show i < t.data.toList.length by rw [← Lib.size_eq]; exact h)]; rfl
/-- In a trimmed text. -/
theorem trimmed_at (s : ByteArray) (i : Nat) (h : i < (trimB s).size) (e : (trimB s)[i] = 32) : 0 < i ∧ i + 1 < (trimB s).size ∧ ∀ h' : i - 1 < (trimB s).size, (trimB s)[i - 1] ≠ 32 := by
  have hz : (trimB s).size = (trimL s.data.toList).length := by rw [Lib.size_eq]; rfl
  have hg : Good (trimB s).data.toList := (trF_good s.data.toList).1
  have h1 := hg i (by rw [← Lib.size_eq]; exact h) (by rw [get_getD _ i h]; exact e)
  refine ⟨h1.1, by rw [Lib.size_eq]; exact h1.2.1, fun h' => ?_⟩
  rw [← get_getD _ _ h']
  exact h1.2.2
/-- What is put down stays. -/
theorem trF_grows (l r : List UInt8) : (trF l).1 <+: (trF (l ++ r)).1 := by
  refine snoc_ind (P := fun r => (trF l).1 <+: (trF (l ++ r)).1) (by simp) (fun r c ih => ?_) r
  rw [← List.append_assoc, trF_snoc]
  refine ih.trans ?_
  unfold trStep
  split
  · exact List.prefix_refl _
  · exact List.prefix_append _ _
/-- How much is put down behind i bytes. -/
def kk (s : ByteArray) (i : Nat) : Nat := (trF (s.data.toList.take i)).1.length
theorem kk_end (s : ByteArray) : kk s s.size = (trimB s).size := by
  unfold kk
  rw [List.take_of_length_le (by rw [← Lib.size_eq]; exact Nat.le_refl _), Lib.size_eq]
  rfl
theorem kk_aux (T : ByteArray) (L r : List UInt8) (b : Bool) (c : UInt8) (hr : (L ++ ((if b then [32] else []) ++ [c])) ++ r = T.data.toList) :
    ((L ++ ((if b then [32] else []) ++ [c])).length = L.length + 1 ∧ ∃ h1 : L.length < T.size, T[L.length] = c) ∨
    ((L ++ ((if b then [32] else []) ++ [c])).length = L.length + 2 ∧ ∃ h1 : L.length + 1 < T.size, T[L.length] = 32 ∧ T[L.length + 1] = c) := by
  have hl := congrArg List.length hr
  rw [← Lib.size_eq] at hl
  cases b with
  | false =>
    simp at hl
    have h1 : L.length < T.size := by omega
    refine .inl ⟨by simp, h1, ?_⟩
    rw [← get_getD _ _ h1, ← hr]
    simp [List.getD]
  | true =>
    simp at hl
    have h1 : L.length + 1 < T.size := by omega
    refine .inr ⟨by simp, h1, ?_, ?_⟩
    · rw [← get_getD _ _ (by omega), ← hr]
      simp [List.getD]
    · rw [← get_getD _ _ h1, ← hr]
      simp [List.getD]
theorem kk_step (s : ByteArray) (i : Nat) (h : i < s.size) : (s[i] = 32 ∧ kk s (i + 1) = kk s i) ∨
    (s[i] ≠ 32 ∧ kk s (i + 1) = kk s i + 1 ∧ ∃ h1 : kk s i < (trimB s).size, (trimB s)[kk s i] = s[i]) ∨
    (s[i] ≠ 32 ∧ kk s (i + 1) = kk s i + 2 ∧ ∃ h1 : kk s i + 1 < (trimB s).size, (trimB s)[kk s i] = 32 ∧ (trimB s)[kk s i + 1] = s[i]) := by
  have hst : trF (s.data.toList.take (i + 1)) = trStep (trF (s.data.toList.take i)) s[i] := by rw [take_snoc s i h, trF_snoc]
  have hpre : (trF (s.data.toList.take (i + 1))).1 <+: (trimB s).data.toList := by
    have := trF_grows (s.data.toList.take (i + 1)) (s.data.toList.drop (i + 1))
    rw [List.take_append_drop] at this
    exact this
  unfold kk
  rw [hst] at hpre ⊢
  unfold trStep at hpre ⊢
  by_cases hc : s[i] = 32
  · rw [if_pos hc] at hpre ⊢
    exact .inl ⟨hc, rfl⟩
  · rw [if_neg hc] at hpre ⊢
    obtain ⟨r, hr⟩ := hpre
    rcases kk_aux (trimB s) _ r _ _ hr with ⟨e, h⟩ | ⟨e, h⟩
    · exact .inr (.inl ⟨hc, e, h⟩)
    · exact .inr (.inr ⟨hc, e, h⟩)
theorem cas_ul (x : Nat) : cas 97 65 (cas 65 97 x) = cas 97 65 x := by
  unfold cas
  repeat' split
  all_goals omega
theorem cas_lu (x : Nat) : cas 65 97 (cas 97 65 x) = cas 65 97 x := by
  unfold cas
  repeat' split
  all_goals omega
theorem casB_twice (f t : Nat) (hf : f ≤ 97) (ht : t ≤ 97) (h : ∀ x, cas t f (cas f t x) = cas t f x) (s : ByteArray) : casB t f (casB f t s) = casB t f s := by
  unfold casB
  show (⟨(List.map _ (List.map _ s.data.toList)).toArray⟩ : ByteArray) = _
  rw [List.map_map]
  congr 3
  funext c
  have := cas_le hf ht (show c.toNat ≤ 255 by have := c.toNat_lt; omega)
  simp only [Function.comp]
  rw [b1 (by omega), h]
theorem casB_size (f t : Nat) (s : ByteArray) : (casB f t s).size = s.size := by
  show (List.map _ s.data.toList).toArray.size = _
  rw [List.size_toArray, List.length_map, ← Lib.size_eq]
end Go.Proofs.YtjmdhfopokmhcaaGreatDoor.T5
