/- Replacing two quotes by one is taking doubled quotes as one; of no program. -/
import Derived.Test.YtcabgnikbgoikaaDoorMath8
import Derived.Lib.ReplaceLaws
namespace Go.Proofs.YtcabgnikbgoikaaDoor
open Go.RowKit
set_option linter.unusedVariables false

theorem idx_cons (b : UInt8) (l : List UInt8) (h : [34, 34].isPrefixOf (b :: l) = false) : Lib.index (b :: l) [34, 34] = if Lib.index l [34, 34] == -1 then -1 else Lib.index l [34, 34] + 1 := by
  rw [Lib.index, h]; rfl
theorem cnt_fuel : ∀ (f : Nat) (l : List UInt8), l.length < f → ∀ f', l.length < f' → Lib.countFrom [34, 34] f l = Lib.countFrom [34, 34] f' l
  | 0, l, h, f', h' => absurd h (Nat.not_lt_zero _)
  | f + 1, l, h, 0, h' => absurd h' (Nat.not_lt_zero _)
  | f + 1, l, h, f' + 1, h' => by
    unfold Lib.countFrom
    split
    · rfl
    · next hn =>
      have hge := Lib.index_ge l [34, 34]
      have hr := Lib.index_room l [34, 34] (by simp at hn; omega)
      simp at hr
      rw [cnt_fuel f _ (by rw [List.length_drop]; simp; omega) f' (by rw [List.length_drop]; simp; omega)]
def rep (l : List UInt8) : List UInt8 := Lib.replaceK [34, 34] [34] (Lib.count l [34, 34]) l
theorem rep_none {l : List UInt8} (h : Lib.index l [34, 34] = -1) : rep l = l := by
  unfold rep Lib.count Lib.countFrom
  rw [h]; rfl
theorem rep_hit {l : List UInt8} {i : Nat} (h : Lib.index l [34, 34] = i) : rep l = l.take i ++ [34] ++ rep (l.drop (i + 2)) := by
  have hm : ¬ (Lib.index l [34, 34] == -1) = true := fun e => by have := beq_iff_eq.1 e; omega
  have hr := Lib.index_room l [34, 34] (by omega)
  simp at hr
  have hc : Lib.count l [34, 34] = Lib.count (l.drop (i + 2)) [34, 34] + 1 := by
    unfold Lib.count
    rw [Lib.countFrom, if_neg hm, h]
    simp only [Int.toNat_natCast, List.length_cons, List.length_nil, Nat.zero_add, Nat.reduceAdd]
    rw [cnt_fuel l.length _ (by rw [List.length_drop]; omega) ((l.drop (i + 2)).length + 1) (by omega)]
    omega
  unfold rep
  rw [hc, Lib.replaceK_hit _ _ _ _ i h]
  rfl
theorem rep_cons {b : UInt8} {l : List UInt8} (h : [34, 34].isPrefixOf (b :: l) = false) : rep (b :: l) = b :: rep l := by
  have hi := idx_cons b l h
  have hge := Lib.index_ge l [34, 34]
  by_cases hn : Lib.index l [34, 34] = -1
  · rw [hn] at hi
    rw [rep_none hn, rep_none (by rw [hi]; rfl)]
  · obtain ⟨i, e⟩ : ∃ i : Nat, Lib.index l [34, 34] = i := ⟨(Lib.index l [34, 34]).toNat, by omega⟩
    rw [if_neg (by simpa using hn), e] at hi
    rw [rep_hit e, rep_hit (i := i + 1) (by rw [hi]; rfl), List.take_succ_cons, show i + 1 + 2 = (i + 2) + 1 by omega, List.drop_succ_cons]
    rfl
theorem rep_und : ∀ l : List UInt8, rep l = und l
  | [] => rfl
  | [c] => by
    have h : [34, 34].isPrefixOf [c] = false := by simp [List.isPrefixOf]
    rw [rep_cons h]; rfl
  | c :: d :: r => by
    by_cases h : c = 34 ∧ d = 34
    · obtain ⟨rfl, rfl⟩ := h
      have hi : Lib.index (34 :: 34 :: r) [34, 34] = ((0 : Nat) : Int) := by rw [Lib.index, if_pos (by simp [List.isPrefixOf])]; rfl
      rw [rep_hit hi, und, if_pos ⟨rfl, rfl⟩, ← rep_und r]
      rfl
    · have h' : [34, 34].isPrefixOf (c :: d :: r) = false := by
        rw [Bool.eq_false_iff]
        intro e
        simp [List.isPrefixOf] at e
        exact h ⟨e.1.symm, e.2.symm⟩
      rw [rep_cons h', und, if_neg h, rep_und (d :: r)]
theorem replace_und (l : List UInt8) : Lib.replaceAll l [34, 34] [34] = und l := by
  rw [← rep_und]
  unfold Lib.replaceAll Lib.replace rep Lib.replaceNum
  rw [if_neg (by decide), if_pos (.inl (by decide))]
end Go.Proofs.YtcabgnikbgoikaaDoor
