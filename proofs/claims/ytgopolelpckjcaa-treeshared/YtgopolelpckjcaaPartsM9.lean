/- What a tree's parts make together. -/
import Derived.Test.YtgopolelpckjcaaBegun9
import Derived.Test.YtgopolelpckjcaaAreas9
namespace Go.Proofs.Ytgopolelpckjcaa
open Go.RowKit Go.Sort
set_option linter.unusedVariables false

theorem readsL_snoc : ∀ (l : List Ex) (x : Ex), readsL (l ++ [x]) = readsL l ++ readsE x
  | [], x => by simp [readsL]
  | k :: r, x => by rw [List.cons_append, readsL, readsL, readsL_snoc r x, List.append_assoc]
theorem readsL_app : ∀ (l m : List Ex), readsL (l ++ m) = readsL l ++ readsL m
  | [], m => by simp [readsL]
  | k :: r, m => by rw [List.cons_append, readsL, readsL, readsL_app r m, List.append_assoc]
theorem reads_no {w w' : World} {t : Ex} {e : Ending} (h : ReadsP w t e w') (h2 : mayR t = 22) : e = .returned (.tuple #[.slice none 0 0, .int .i64 22]) ∧ Below w.heap.size w w' := by
  rcases h with ⟨_, he, hb⟩ | ⟨h, _⟩
  · rw [h2] at he; exact ⟨he, hb⟩
  · rw [h2] at h; cases h
theorem reads_yes {w w' : World} {t : Ex} {e : Ending} (h : ReadsP w t e w') (h2 : mayR t = 0) : ∃ a len cap, e = .returned (.tuple #[.slice a len cap, .int .i64 0]) ∧ RowA w' (w.heap.size) (.slice a len cap) (readsE t) ∧ Below w.heap.size w w' := by
  rcases h with ⟨h, _⟩ | ⟨_, h⟩
  · exact absurd h2 h
  · exact h
end Go.Proofs.Ytgopolelpckjcaa
