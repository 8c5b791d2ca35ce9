/- What every plain row's proof of this seat shares: the program's own knobs; the world's shape gives MaxLen's number. -/
import Derived.Test.YtllbgjeibcaajaaKit5
import Derived.Test.YtllbgjeibcaajaaShelf
import Derived.HandedShaped
import Derived.ProofKit
import Derived.OpenShut
import Derived.ChangeOld
import Derived.Below
namespace Go.Proofs.Ytllbgjeibcaajaa
open Go.ChangeShapes Go.WideShapes Go.ChangeAt Go.RowKit
set_option linter.unusedVariables false

theorem own : ownKnob Try.prog.godebug = none := by kernel_rfl
theorem laidOut : laidOutB Try.prog = true := by kernel_rfl
theorem tab_of {W : World} (h : W.ShapedOpen Try.prog) : Tab W := Try.laysM143.s1_3 W h
end Go.Proofs.Ytllbgjeibcaajaa
