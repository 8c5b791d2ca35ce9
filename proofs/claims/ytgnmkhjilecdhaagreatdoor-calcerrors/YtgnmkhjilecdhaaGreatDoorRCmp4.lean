/- What the reference's Compare answers, way by way. Proved of the Go text. -/
import Derived.Test.YtgnmkhjilecdhaaGreatDoorCmp4
import Derived.Test.YtgnmkhjilecdhaaGreatDoorS4J
namespace Go.Proofs.YtgnmkhjilecdhaaGreatDoor
open Go.RowKit Go.Sort
set_option linter.unusedVariables false

theorem O3.put1 {w : World} {b : Nat} {v0 v1 v2 : Value} (h : O3 w b v0 v1 v2) (u : Value) : O3 (w.setCell ⟨b, 0, none⟩ u) b u v1 v2 :=
  ⟨⟨World.cell?_setCell_same w _ u h.1.1, put_c h.1.2.1 (by decide), put_c h.1.2.2 (by decide)⟩, fun j => (World.frozen?_setCell _ _ _ _).trans (h.2 j)⟩
theorem O3.other1 {w : World} {a b : Nat} {v0 v1 v2 u : Value} (h : O3 w a v0 v1 v2) (hn : a ≠ b) : O3 (w.setCell ⟨b, 0, none⟩ u) a v0 v1 v2 :=
  ⟨⟨(World.cell?_setCell_other _ _ _ _ (by simp [*])).trans h.1.1, (World.cell?_setCell_other _ _ _ _ (by simp [*])).trans h.1.2.1, (World.cell?_setCell_other _ _ _ _ (by simp [*])).trans h.1.2.2⟩, fun j => (World.frozen?_setCell _ _ _ _).trans (h.2 j)⟩
end Go.Proofs.YtgnmkhjilecdhaaGreatDoor
