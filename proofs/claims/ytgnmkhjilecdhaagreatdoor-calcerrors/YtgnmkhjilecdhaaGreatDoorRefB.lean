/- The reference's Sub, Quo, Mod: what each answers, proved of the Go text. -/
import Derived.Test.YtgnmkhjilecdhaaGreatDoorRefIs
import Derived.Test.YtgnmkhjilecdhaaGreatDoorQuoMod
import Derived.Deep.RegionWith
import Derived.Lib.QuietBelow
import Derived.BigQuiet
namespace Go.Proofs.YtgnmkhjilecdhaaGreatDoor
open Go.RowKit Go.Sort
set_option linter.unusedVariables false

theorem isN_neg (n : Int) (h0 : -9223372036854775808 ≤ n) (h1 : n ≤ 9223372036854775807) : IsN (!decide (n < 0)) false (n.natAbs : Int) (-n) := by
  refine ⟨by omega, by omega, fun _ => ?_, (fun h => by cases h)⟩
  unfold sval
  by_cases h : n < 0
  · rw [if_neg (by simpa using h)]; omega
  · rw [if_pos (by simpa using h)]; omega
theorem below4 (w : World) (a b c d : Obj) : Below w.heap.size w ((((w.alloc a).alloc b).alloc c).alloc d) :=
  ((((Below.refl _ _).alloc (Nat.le_refl _) _).alloc (by simp) _).alloc (by simp; omega) _).alloc (by simp; omega) _
end Go.Proofs.YtgnmkhjilecdhaaGreatDoor
