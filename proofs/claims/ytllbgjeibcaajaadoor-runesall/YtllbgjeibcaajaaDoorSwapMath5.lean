/- A text put in the place of another one, from the left: of no program. -/
import Derived.Test.YtllbgjeibcaajaaDoorKit5
import Derived.Lib.Replace
import Derived.Lib.ReplaceLaws
namespace Go.Proofs.YtllbgjeibcaajaaDoor
set_option linter.unusedVariables false

/-- Byte by byte, n of them at most. -/
def sw (old new : List UInt8) : Nat → List UInt8 → List UInt8
  | 0, l => l
  | _ + 1, [] => []
  | f + 1, c :: l => if old.isPrefixOf (c :: l) then new ++ sw old new f ((c :: l).drop old.length) else c :: sw old new f l
theorem sw_fuel (old new : List UInt8) (ho : old ≠ []) : ∀ f l, l.length ≤ f → ∀ f', l.length ≤ f' → sw old new f l = sw old new f' l
  | 0, [], _, 0, _ => rfl
  | 0, [], _, f' + 1, _ => rfl
  | f + 1, [], _, 0, _ => rfl
  | f + 1, [], _, f' + 1, _ => rfl
  | 0, c :: l, h, _, _ => by simp at h
  | f + 1, c :: l, _, 0, h => by simp at h
  | f + 1, c :: l, h, f' + 1, h' => by
    have hp : 0 < old.length := List.length_pos_iff.2 ho
    rw [sw, sw]
    simp only [List.length_cons] at h h'
    split
    · rw [sw_fuel old new ho f _ (by rw [List.length_drop, List.length_cons]; omega) f' (by rw [List.length_drop, List.length_cons]; omega)]
    · rw [sw_fuel old new ho f l (by omega) f' (by omega)]
/-- The whole text so. -/
def swL (old new l : List UInt8) : List UInt8 := sw old new l.length l
theorem swL_nil (old new : List UInt8) : swL old new [] = [] := rfl
theorem swL_hit {old new l : List UInt8} (ho : old ≠ []) (h : old.isPrefixOf l = true) : swL old new l = new ++ swL old new (l.drop old.length) := by
  have hp : 0 < old.length := List.length_pos_iff.2 ho
  cases l with
  | nil => cases old with
    | nil => exact absurd rfl ho
    | cons a t => simp at h
  | cons c l =>
    unfold swL
    rw [List.length_cons, sw, if_pos h, sw_fuel old new ho _ _ (by rw [List.length_drop, List.length_cons]; omega) _ (Nat.le_refl _)]
theorem swL_miss {old new : List UInt8} {c : UInt8} {l : List UInt8} (h : old.isPrefixOf (c :: l) = false) : swL old new (c :: l) = c :: swL old new l := by
  unfold swL
  rw [List.length_cons, sw, if_neg (by simp [h])]
open Go.Lib in
theorem rep_is (old new : List UInt8) (ho : old ≠ []) : ∀ n l, l.length ≤ n → replaceK old new (count l old) l = swL old new l
  | n, [], _ => by
    have : index ([] : List UInt8) old = -1 := by cases old with
      | nil => exact absurd rfl ho
      | cons a t => rfl
    rw [count_miss this]; rfl
  | 0, c :: l, h => by simp at h
  | n + 1, c :: l, h => by
    have hp : 0 < old.length := List.length_pos_iff.2 ho
    simp only [List.length_cons] at h
    cases hx : old.isPrefixOf (c :: l) with
    | true =>
      have h0 : index (c :: l) old = (0 : Nat) := by unfold index; rw [if_pos hx]; rfl
      rw [count_hit ho h0, Nat.add_comm 1, replaceK_hit old new _ _ 0 h0, swL_hit ho hx, Nat.zero_add]
      rw [rep_is old new ho n _ (by rw [List.length_drop, List.length_cons]; omega)]
      simp
    | false =>
      have ih := rep_is old new ho n l (by omega)
      rw [swL_miss hx, ← ih]
      have hi : index (c :: l) old = if index l old == -1 then -1 else index l old + 1 := by rw [index, if_neg (by simp [hx])]
      rcases index_spec l old with ⟨h1, _⟩ | ⟨i, h1, h2, _⟩
      · have h3 : index (c :: l) old = -1 := by rw [hi, h1]; rfl
        rw [count_miss h1, count_miss h3]; rfl
      · have h3 : index (c :: l) old = ((i + 1 : Nat) : Int) := by
          rw [hi, h1]
          have : ((i : Int) == -1) = false := by rw [beq_eq_false_iff_ne]; omega
          rw [this]; simp
        rw [count_hit ho h1, count_hit ho h3, Nat.add_comm 1, Nat.add_comm 1, replaceK_hit old new _ _ i h1, replaceK_hit old new _ _ (i + 1) h3]
        simp [List.take_succ_cons, show i + 1 + old.length = (i + old.length) + 1 by omega]
open Go.Lib in
theorem swL_len (old new : List UInt8) (ho : old ≠ []) : ∀ n l, l.length ≤ n → (swL old new l).length + count l old * old.length = l.length + count l old * new.length
  | n, [], _ => by
    have : index ([] : List UInt8) old = -1 := by cases old with
      | nil => exact absurd rfl ho
      | cons a t => rfl
    rw [count_miss this]; simp [swL_nil]
  | 0, c :: l, h => by simp at h
  | n + 1, c :: l, h => by
    have hp : 0 < old.length := List.length_pos_iff.2 ho
    simp only [List.length_cons] at h
    cases hx : old.isPrefixOf (c :: l) with
    | true =>
      have h0 : index (c :: l) old = (0 : Nat) := by unfold index; rw [if_pos hx]; rfl
      have hlen : old.length ≤ (c :: l).length := (List.isPrefixOf_iff_prefix.1 hx).length_le
      have ih := swL_len old new ho n ((c :: l).drop old.length) (by rw [List.length_drop, List.length_cons]; omega)
      rw [count_hit ho h0, Nat.zero_add, swL_hit ho hx, List.length_append]
      rw [List.length_drop] at ih
      rw [Nat.add_mul, Nat.add_mul, Nat.one_mul, Nat.one_mul]
      omega
    | false =>
      have ih := swL_len old new ho n l (by omega)
      have hi : index (c :: l) old = if index l old == -1 then -1 else index l old + 1 := by rw [index, if_neg (by simp [hx])]
      have hcnt : count (c :: l) old = count l old := by
        rcases index_spec l old with ⟨h1, _⟩ | ⟨i, h1, h2, _⟩
        · have h3 : index (c :: l) old = -1 := by rw [hi, h1]; rfl
          rw [count_miss h1, count_miss h3]
        · have h3 : index (c :: l) old = ((i + 1 : Nat) : Int) := by
            rw [hi, h1]
            have : ((i : Int) == -1) = false := by rw [beq_eq_false_iff_ne]; omega
            rw [this]; simp
          rw [count_hit ho h1, count_hit ho h3]
          simp [show i + 1 + old.length = (i + old.length) + 1 by omega]
      rw [swL_miss hx, hcnt, List.length_cons, List.length_cons]
      omega
theorem swL_same (old : List UInt8) (ho : old ≠ []) : ∀ n l, l.length ≤ n → swL old old l = l
  | n, [], _ => rfl
  | 0, c :: l, h => by simp at h
  | n + 1, c :: l, h => by
    have hp : 0 < old.length := List.length_pos_iff.2 ho
    simp only [List.length_cons] at h
    cases hx : old.isPrefixOf (c :: l) with
    | true =>
      rw [swL_hit ho hx, swL_same old ho n _ (by rw [List.length_drop, List.length_cons]; omega)]
      obtain ⟨r, hr⟩ := List.isPrefixOf_iff_prefix.1 hx
      rw [← hr, List.drop_left]
    | false => rw [swL_miss hx, swL_same old ho n l (by omega)]
open Go.Lib in
/-- strings.ReplaceAll, as the library's contract words it, is that. -/
theorem all_is (old new l : List UInt8) (ho : old ≠ []) : replaceAll l old new = swL old new l := by
  unfold replaceAll replace
  by_cases h : (old == new) = true
  · have : old = new := by simpa using h
    rw [if_pos h, ← this, swL_same old ho _ l (Nat.le_refl _)]
  · rw [if_neg h]
    unfold replaceNum
    rw [if_pos (.inl (by decide))]
    exact rep_is old new ho _ l (Nat.le_refl _)
/-- The text so. -/
def swB (s old new : ByteArray) : ByteArray := ⟨(swL old.data.toList new.data.toList s.data.toList).toArray⟩
theorem ne_of_size {t : ByteArray} (h : 0 < t.size) : t.data.toList ≠ [] := by
  intro e
  have := Lib.size_eq t
  rw [e, List.length_nil] at this
  omega
end Go.Proofs.YtllbgjeibcaajaaDoor
