/- quadrilleref9.Same and Copy: what they answer of every tree. -/
import Derived.Test.YtcabgnikbgoikabRAll9
namespace Go.Proofs.Ytcabgnikbgoikab
open Go.RowKit Go.Sort
set_option linter.unusedVariables false

theorem size_le {t : Ex} (h : fitB t = true) : (sizeR t).1 ≤ 512 := by have := size_fine h; omega
theorem size_nle {t : Ex} (h : fitB t = false) : ¬ ((sizeR t).1 ≤ 512) := by rw [size_great h]; decide
end Go.Proofs.Ytcabgnikbgoikab
