/- What the place that Find answers says, in the words of the law's own test: of no program. -/
import Derived.Test.YtllbgjeibcaajaaDoorBegun5
import Derived.Lib.IndexBytes
namespace Go.Proofs.YtllbgjeibcaajaaDoor
open Go.RowKit Go.Sort
set_option linter.unusedVariables false

theorem fnd_some (s what : ByteArray) : ∀ n a q, fnd s what n a = some q → a ≤ q ∧ q < a + n ∧ occ s what (sk s (q - 1) 0) = true ∧ ∀ p, a ≤ p → p < q → occ s what (sk s (p - 1) 0) = false
  | 0, a, q, h => by simp [fnd] at h
  | n + 1, a, q, h => by
    rw [fnd] at h
    by_cases ho : occ s what (sk s (a - 1) 0) = true
    · rw [if_pos ho] at h
      obtain rfl := Option.some.inj h
      exact ⟨Nat.le_refl _, by omega, ho, fun p h1 h2 => by omega⟩
    · rw [if_neg ho] at h
      obtain ⟨h1, h2, h3, h4⟩ := fnd_some s what n (a + 1) q h
      refine ⟨by omega, by omega, h3, fun p h5 h6 => ?_⟩
      by_cases e : p = a
      · subst e; simpa using ho
      · exact h4 p (by omega) h6
theorem fnd_nowhere (s what : ByteArray) : ∀ n a, fnd s what n a = none → ∀ p, a ≤ p → p < a + n → occ s what (sk s (p - 1) 0) = false
  | 0, a, h, p, h1, h2 => by omega
  | n + 1, a, h, p, h1, h2 => by
    rw [fnd] at h
    by_cases ho : occ s what (sk s (a - 1) 0) = true
    · rw [if_pos ho] at h; cases h
    · rw [if_neg ho] at h
      by_cases e : p = a
      · subst e; simpa using ho
      · exact fnd_nowhere s what n (a + 1) h p (by omega) (by omega)
/-- The law's own test: do the bytes from a on begin with what? -/
theorem begins_yes (s what : ByteArray) (a : Nat) (ha : a ≤ s.size) (h : occ s what a = true) :
    what.size ≤ (s.extract a s.size).size ∧ (((s.extract a s.size).extract 0 what.size).toList == what.toList) = true := by
  have hr : a + what.size ≤ s.size := by
    rcases Lib.occAt_room h with h1 | h1
    · rw [← Lib.size_eq, ← Lib.size_eq] at h1; exact h1
    · have : what.size = 0 := by rw [Lib.size_eq, h1]; rfl
      omega
  refine ⟨by rw [ext_size]; omega, ?_⟩
  rw [ext_ext s a what.size hr, ← Lib.occ_of_piece s what a hr]
  exact h
theorem begins_no (s what : ByteArray) (a : Nat) (ha : a ≤ s.size) (h : occ s what a = false) :
    ¬ what.size ≤ (s.extract a s.size).size ∨ (what.size ≤ (s.extract a s.size).size ∧ (((s.extract a s.size).extract 0 what.size).toList == what.toList) = false) := by
  by_cases hr : a + what.size ≤ s.size
  · refine .inr ⟨by rw [ext_size]; omega, ?_⟩
    rw [ext_ext s a what.size hr, ← Lib.occ_of_piece s what a hr]
    exact h
  · exact .inl (by rw [ext_size]; omega)
theorem rem2_is (n r : Nat) : (n : Int).tmod ((r : Int) + 2) = (n % (r + 2) : Nat) := by
  rw [Int.tmod_eq_emod_of_nonneg (by omega)]; rfl
theorem two_ne (r : Nat) : ¬ ((r : Int) + 2 = 0) := by omega
theorem two_beq (r : Nat) : (((r : Int) + 2) == 0) = false := by rw [beq_eq_false_iff_ne]; omega
/-- runes.Right of so many runes from place p on. -/
theorem right_at (s : ByteArray) (hs : s.size ≤ 500) (p : Nat) (h1 : 1 ≤ p) (h2 : p ≤ rc s 0 + 1) : CallIs 27 #[.string s, .int .i64 ((rc s 0 : Int) + 1 - p)] (.tuple #[.string (s.extract (sk s (p - 1) 0) s.size), .int .i64 0]) := by
  have hr := rc_size s
  have := right_yes s ((rc s 0 : Int) + 1 - p) (by omega) (by omega) (by omega)
  rw [show rc s 0 - ((rc s 0 : Int) + 1 - p).toNat = p - 1 by omega] at this
  exact this
end Go.Proofs.YtllbgjeibcaajaaDoor
