/- What the card's proof shares: the start that fits; the world's shape gives MaxLen's number. -/
import Derived.Test.YtllbgjeibcaajaaDoorRows
import Derived.Test.YtllbgjeibcaajaaDoorCards
import Derived.Test.YtllbgjeibcaajaaDoorTie
import Derived.Test.YtllbgjeibcaajaaDoorKit5
import Derived.Test.YtllbgjeibcaajaaDoorShelf
import Derived.HandedShaped
import Derived.ProofKit
import Derived.OpenShut
import Derived.ShutString
import Derived.ChangeOld
import Derived.Below
import Derived.LaidMore
import Derived.Lay
import Derived.Stop.Joined
import Derived.SevenTiedAt
namespace Go.Proofs.YtllbgjeibcaajaaDoor
open Go.ChangeShapes Go.WideShapes Go.ChangeAt Go.RowKit
set_option linter.unusedVariables false

theorem own : ownKnob Tryd.prog.godebug = none := by kernel_rfl
theorem laidOut : laidOutB Tryd.prog = true := by kernel_rfl
theorem tab_of {W : World} (h : W.ShapedOpen Tryd.prog) : Tab W := Tryd.laysM143.s1_3 W h
abbrev laid2 : List (String × DataW Unit) := [("unicode/utf8.acceptRanges", Rows.laid_unicode_utf8_acceptRanges), ("unicode/utf8.first", Rows.laid_unicode_utf8_first)]
theorem met (os : Os) (args : Array Value) : laidMetH Tryd.prog laid2 ((World.laidAll Tryd.prog os laid2).forCall (fun _ _ => 0) ⟨#[], args, []⟩).memory := by
  rw [MakeChecks.laidMetH_plain _ _ _ (by kernel_rfl)]
  exact laidMet_laidAll _ (by kernel_rfl) (by kernel_rfl)
end Go.Proofs.YtllbgjeibcaajaaDoor
