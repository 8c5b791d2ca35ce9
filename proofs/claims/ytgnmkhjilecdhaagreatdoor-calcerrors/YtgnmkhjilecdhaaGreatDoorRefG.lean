/- The reference's Read: what it answers, proved of the Go text; it answers as package whole's does. -/
import Derived.Test.YtgnmkhjilecdhaaGreatDoorRefC
import Derived.Test.YtgnmkhjilecdhaaGreatDoorBaJ
import Derived.Test.YtgnmkhjilecdhaaGreatDoorBgnJ
import Derived.Deep.RegionWith
namespace Go.Proofs.YtgnmkhjilecdhaaGreatDoor
open Go.RowKit Go.Sort
set_option linter.unusedVariables false

theorem isN_abs (s : Bool) (m z : Int) (h : IsN s false m z) (hz : 0 ≤ z) : m = z := by
  obtain ⟨h0, h1, h2, -⟩ := h
  have := h2 rfl
  unfold sval at this
  cases s <;> simp at this <;> omega
theorem isN_ten : IsN false false 10 10 := isN_plain false 10 (by decide) (by decide)

end Go.Proofs.YtgnmkhjilecdhaaGreatDoor
