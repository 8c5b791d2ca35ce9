/- Ahead of the document's own table: row order. What the fill of GridOrder leaves: each place once, with the number that was laid last. Proved of the Go text. -/
import Derived.Test.YtmfkeobjbcinpaaSet7
namespace Go.Proofs.Ytmfkeobjbcinpaa
open Go.RowKit Go.Maps
set_option linter.unusedVariables false
set_option linter.unusedSimpArgs false

set_option maxHeartbeats 2000000 in
theorem ahead_any (r c x y : Int) (w : World) : Calls Try.prog 14 #[spotV r c, spotV x y] w fun e w' => e = .returned (.bool (decide (ltS (r, c) (x, y)))) ∧ Below w.heap.size w w' := by
  have hd : decide (ltS (r, c) (x, y)) = (decide (r < x) || (decide (r = x) && decide (c < y))) := by rw [Bool.eq_iff_iff, decide_eq_true_iff]; simp [ltS]
  rw [hd]
  by_cases h1 : r < x
  · go_enter Try.func14, Try.ntmps14
    go_wp2_with fail
    go_ret
    exact ⟨by simp [h1], by go_grown⟩
  · by_cases h2 : r = x
    · subst h2
      by_cases h3 : c < y
      · go_enter Try.func14, Try.ntmps14
        go_wp2_with fail
        go_ret
        exact ⟨by simp [h3], by go_grown⟩
      · go_enter Try.func14, Try.ntmps14
        go_wp2_with fail
        go_ret
        exact ⟨by simp [h3], by go_grown⟩
    · have h2' : (r == x) = false := by simp [h2]
      go_enter Try.func14, Try.ntmps14
      go_wp2_with fail
      go_ret
      exact ⟨by simp [h1, h2], by go_grown⟩

/-- What lies in the table behind k calls of Set, and behind which of them something was laid last. -/
structure Fill (sp : Nat → Sp) (k n : Nat) (L : Tb Int) : Prop where
  sorted : SortT L
  len : L.length ≤ k
  le : n ≤ k
  val : ∀ p ∈ L, ∃ m : Nat, p.2 = m ∧ m < n ∧ sp m = p.1 ∧ ∀ j, m < j → j < k → sp j ≠ p.1
  has : ∀ j, j < k → hasT L (sp j) = mayB (sp j).1 (sp j).2
theorem Fill.nil (sp : Nat → Sp) : Fill sp 0 0 [] := ⟨List.Pairwise.nil, Nat.le_refl _, Nat.le_refl _, fun p hp => by simp at hp, fun j hj => absurd hj (by omega)⟩
theorem Fill.no {sp : Nat → Sp} {k n : Nat} {L : Tb Int} (h : Fill sp k n L) (hm : mayB (sp k).1 (sp k).2 = false) (hL : ∀ p ∈ L, mayB p.1.1 p.1.2 = true) : Fill sp (k + 1) n L := by
  have hno : ∀ p ∈ L, sp k ≠ p.1 := fun p hp e => by have := hL p hp; rw [← e, hm] at this; cases this
  refine ⟨h.sorted, Nat.le_succ_of_le h.len, Nat.le_succ_of_le h.le, fun p hp => ?_, fun j hj => ?_⟩
  · obtain ⟨m, e1, e2, e3, e4⟩ := h.val p hp
    refine ⟨m, e1, e2, e3, fun j h1 h2 => ?_⟩
    by_cases hj : j = k
    · subst hj; exact hno p hp
    · exact e4 j h1 (by omega)
  · by_cases hj' : j = k
    · subst hj'
      rw [hm]
      unfold hasT
      rw [getT_none_of (fun p hp e => hno p hp e.symm)]
      rfl
    · exact h.has j (by omega)
theorem Fill.yes {sp : Nat → Sp} {k n : Nat} {L : Tb Int} (h : Fill sp k n L) (hm : mayB (sp k).1 (sp k).2 = true) : Fill sp (k + 1) (k + 1) (insT L (sp k) k) := by
  have hg := getT_insT h.sorted (sp k) (k : Int)
  refine ⟨insT_sorted _ _ h.sorted, ?_, Nat.le_refl _, fun p hp => ?_, fun j hj => ?_⟩
  · have := insT_len h.sorted (sp k) (k : Int)
    have := h.len
    cases hh : hasT L (sp k) <;> simp [hh] at * <;> omega
  · rcases (mem_insT h.sorted).1 hp with rfl | ⟨h1, h2⟩
    · exact ⟨k, rfl, by omega, rfl, fun j h1 h2 => by omega⟩
    · obtain ⟨m, e1, e2, e3, e4⟩ := h.val p h1
      refine ⟨m, e1, by have := h.le; omega, e3, fun j h3 h4 => ?_⟩
      by_cases hj : j = k
      · subst hj; exact fun e => h2 e.symm
      · exact e4 j h3 (by omega)
  · unfold hasT
    rw [hg]
    by_cases e : sp j = sp k
    · rw [if_pos e, e, hm]; rfl
    · rw [if_neg e]
      have := h.has j (by by_cases hj' : j = k; · subst hj'; exact absurd rfl e
                          · omega)
      exact this
/-- What one more call of Set leaves, while the table is not full. -/
theorem Fill.step {sp : Nat → Sp} {k n : Nat} {L : Tb Int} (h : Fill sp k n L) (hL : ∀ p ∈ L, mayB p.1.1 p.1.2 = true) (hk : k < 65536) :
    (setE L (sp k) = 0 ∧ Fill sp (k + 1) (k + 1) (setL L (sp k) k)) ∨ ((setE L (sp k) == 0) = false ∧ Fill sp (k + 1) n (setL L (sp k) k)) := by
  rcases setE_cases L (sp k) (k : Int) with ⟨h1, e1, e2⟩ | ⟨h1, hh, hf, e1, e2⟩ | ⟨h1, hh, hf, e1, e2⟩ | ⟨h1, hh, e1, e2⟩
  · exact .inr ⟨by rw [e1]; rfl, by rw [e2]; exact h.no h1 hL⟩
  · have := h.len; omega
  · exact .inl ⟨e1, by rw [e2]; exact h.yes h1⟩
  · exact .inl ⟨e1, by rw [e2]; exact h.yes h1⟩
end Go.Proofs.Ytmfkeobjbcinpaa
