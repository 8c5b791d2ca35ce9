/- Replacing a quote by two is writing each quote twice; of no program. -/
import Derived.Test.YtnfoknifofglbaaDoorTxt11
import Derived.Lib.ReplaceLaws
namespace Go.Proofs.YtnfoknifofglbaaDoor.T9
open Go.RowKit
set_option linter.unusedVariables false

theorem qidx_cons (b : UInt8) (l : List UInt8) (h : [34].isPrefixOf (b :: l) = false) : Lib.index (b :: l) [34] = if Lib.index l [34] == -1 then -1 else Lib.index l [34] + 1 := by
  rw [Lib.index, h]; rfl
theorem qcnt_fuel : ∀ (f : Nat) (l : List UInt8), l.length < f → ∀ f', l.length < f' → Lib.countFrom [34] f l = Lib.countFrom [34] f' l
  | 0, l, h, f', h' => absurd h (Nat.not_lt_zero _)
  | f + 1, l, h, 0, h' => absurd h' (Nat.not_lt_zero _)
  | f + 1, l, h, f' + 1, h' => by
    unfold Lib.countFrom
    split
    · rfl
    · next hn =>
      have hge := Lib.index_ge l [34]
      have h0 : Lib.index l [34] ≠ -1 := by simpa using hn
      have hr := Lib.index_room l [34] (by omega)
      simp only [List.length_cons, List.length_nil] at hr
      rw [qcnt_fuel f _ (by rw [List.length_drop]; simp; omega) f' (by rw [List.length_drop]; simp; omega)]
def qrep (l : List UInt8) : List UInt8 := Lib.replaceK [34] [34, 34] (Lib.count l [34]) l
theorem qrep_none {l : List UInt8} (h : Lib.index l [34] = -1) : qrep l = l := by
  unfold qrep Lib.count Lib.countFrom
  rw [h]; rfl
theorem qrep_hit {l : List UInt8} {i : Nat} (h : Lib.index l [34] = i) : qrep l = l.take i ++ [34, 34] ++ qrep (l.drop (i + 1)) := by
  have hm : ¬ (Lib.index l [34] == -1) = true := fun e => by have := beq_iff_eq.1 e; omega
  have hr := Lib.index_room l [34] (by omega)
  simp at hr
  have hc : Lib.count l [34] = Lib.count (l.drop (i + 1)) [34] + 1 := by
    unfold Lib.count
    rw [Lib.countFrom, if_neg hm, h]
    simp only [Int.toNat_natCast, List.length_cons, List.length_nil, Nat.zero_add]
    rw [qcnt_fuel l.length _ (by rw [List.length_drop]; omega) ((l.drop (i + 1)).length + 1) (by omega)]
    omega
  unfold qrep
  rw [hc, Lib.replaceK_hit _ _ _ _ i h]
  rfl
theorem qrep_cons {b : UInt8} {l : List UInt8} (h : [34].isPrefixOf (b :: l) = false) : qrep (b :: l) = b :: qrep l := by
  have hi := qidx_cons b l h
  have hge := Lib.index_ge l [34]
  by_cases hn : Lib.index l [34] = -1
  · rw [hn] at hi
    rw [qrep_none hn, qrep_none (by rw [hi]; rfl)]
  · obtain ⟨i, e⟩ : ∃ i : Nat, Lib.index l [34] = i := ⟨(Lib.index l [34]).toNat, by omega⟩
    rw [if_neg (by simpa using hn), e] at hi
    rw [qrep_hit e, qrep_hit (i := i + 1) (by rw [hi]; rfl), List.take_succ_cons, List.drop_succ_cons]
    rfl
theorem qrep_qt : ∀ l : List UInt8, qrep l = qt l
  | [] => rfl
  | c :: r => by
    by_cases h : c = 34
    · subst h
      have hi : Lib.index (34 :: r) [34] = ((0 : Nat) : Int) := by rw [Lib.index, if_pos (by simp [List.isPrefixOf])]; rfl
      rw [qrep_hit hi, List.take_zero, Nat.zero_add, List.drop_one, List.tail_cons, qrep_qt r]
      rfl
    · have h' : [34].isPrefixOf (c :: r) = false := by
        rw [Bool.eq_false_iff]
        intro e
        simp [List.isPrefixOf] at e
        exact h e.symm
      rw [qrep_cons h', qrep_qt r]
      show c :: qt r = (if c = 34 then [34, 34] else [c]) ++ qt r
      rw [if_neg h]; rfl
theorem replace_qt (l : List UInt8) : Lib.replaceAll l [34] [34, 34] = qt l := by
  rw [← qrep_qt]
  unfold Lib.replaceAll Lib.replace qrep Lib.replaceNum
  rw [if_neg (by decide), if_pos (.inl (by decide))]
end Go.Proofs.YtnfoknifofglbaaDoor.T9
