/- More small facts on blocks and values that are handed in. -/
import Derived.Test.YtdbdonpcdoeeiaaVals6
namespace Go.Proofs.Ytdbdonpcdoeeiaa
open Go.RowKit Go.Sort
set_option linter.unusedVariables false

theorem ValAt.alloc {w : World} {b off j : Nat} {k i : Int} {t : ByteArray} (h : ValAt w b off j k i t) (o : Obj) : ValAt (w.alloc o) b off j k i t := h.keep ((Below.refl _ _).alloc (Nat.le_refl _) _)
theorem O3.drew {w : World} {b : Nat} {v0 v1 v2 : Value} (h : O3 w b v0 v1 v2) : O3 w.drew b v0 v1 v2 := ⟨⟨h.1.1, h.1.2.1, h.1.2.2⟩, h.2⟩
theorem O3.c0 {w : World} {b : Nat} {v0 v1 v2 : Value} (h : O3 w b v0 v1 v2) : w.cell? ⟨b, 0, none⟩ = some v0 := h.1.1
theorem O3.c1 {w : World} {b : Nat} {v0 v1 v2 : Value} (h : O3 w b v0 v1 v2) : w.cell? ⟨b, 1, none⟩ = some v1 := h.1.2.1
theorem O3.c2 {w : World} {b : Nat} {v0 v1 v2 : Value} (h : O3 w b v0 v1 v2) : w.cell? ⟨b, 2, none⟩ = some v2 := h.1.2.2
theorem ValAt.c0 {w : World} {b off j : Nat} {k i : Int} {t : ByteArray} (h : ValAt w b off j k i t) : w.cell? ⟨b, off + j * 3, none⟩ = some (.int .i64 k) := h.1
theorem ValAt.c1 {w : World} {b off j : Nat} {k i : Int} {t : ByteArray} (h : ValAt w b off j k i t) : w.cell? ⟨b, off + j * 3 + 1, none⟩ = some (.int .i64 i) := h.2.1
theorem ValAt.c2 {w : World} {b off j : Nat} {k i : Int} {t : ByteArray} (h : ValAt w b off j k i t) : w.cell? ⟨b, off + j * 3 + 2, none⟩ = some (.string t) := h.2.2
theorem ValAt.drew {w : World} {b off j : Nat} {k i : Int} {t : ByteArray} (h : ValAt w b off j k i t) : ValAt w.drew b off j k i t := ⟨h.1, h.2.1, h.2.2⟩
theorem next2 {w5 wa wb : World} (h : Below w5.drew.heap.size w5.drew wa) (h' : Below wa.heap.size wa wb) : Below w5.heap.size w5 wb := next (next ((Below.refl w5.heap.size w5).drew) h) h'
/-- Two values differ, in the walk's words. -/
def Dif (k i k' i' : Int) (t t' : ByteArray) : Prop := (k == k') = false ∨ (k = k' ∧ (i == i') = false) ∨ (k = k' ∧ i = i' ∧ (t.toList == t'.toList) = false)
theorem same_or {k i k' i' : Int} {t t' : ByteArray} : (k = k' ∧ i = i' ∧ t = t') ∨ Dif k i k' i' t t' := by
  by_cases h1 : k = k'
  · by_cases h2 : i = i'
    · by_cases h3 : t = t'
      · exact .inl ⟨h1, h2, h3⟩
      · refine .inr (.inr (.inr ⟨h1, h2, ?_⟩))
        rw [beq_eq_false_iff_ne]
        intro e
        rw [ByteArray.toList_eq, ByteArray.toList_eq] at e
        exact h3 (data_inj e)
    · exact .inr (.inr (.inl ⟨h1, beq_eq_false_iff_ne.2 h2⟩))
  · exact .inr (.inl (beq_eq_false_iff_ne.2 h1))
theorem dif_ne {k i k' i' : Int} {t t' : ByteArray} (h : Dif k i k' i' t t') : ¬ (k = k' ∧ i = i' ∧ t = t') := by
  rintro ⟨rfl, rfl, rfl⟩
  rcases h with h | ⟨_, h⟩ | ⟨_, _, h⟩ <;> simp at h
theorem apart_case {k i k' i' : Int} {t t' : ByteArray} (hi : -9223372036854775808 ≤ i ∧ i ≤ 9223372036854775807) (hi' : -9223372036854775808 ≤ i' ∧ i' ≤ 9223372036854775807) :
    (k = k' ∧ i = i' ∧ t = t') ∨ ((bsOf k i t == bsOf k' i' t') = false ∧ Dif k i k' i' t t') ∨ ((bsOf k i t == bsOf k' i' t') = true ∧ Dif k i k' i' t t' ∧ ¬ Good k i t) ∨ ((bsOf k i t == bsOf k' i' t') = true ∧ Dif k i k' i' t t' ∧ Good k i t ∧ ¬ Good k' i' t') := by
  rcases same_or (k := k) (i := i) (k' := k') (i' := i') (t := t) (t' := t') with h | h
  · exact .inl h
  · cases hE : bsOf k i t == bsOf k' i' t' with
    | false => exact .inr (.inl ⟨rfl, h⟩)
    | true =>
      by_cases g : Good k i t
      · refine .inr (.inr (.inr ⟨rfl, h, g, fun g' => dif_ne h (bsOf_inj hi hi' g g' ?_)⟩))
        exact eq_of_beq hE
      · exact .inr (.inr (.inl ⟨rfl, h, g⟩))
end Go.Proofs.Ytdbdonpcdoeeiaa
