/- What the reference's Compare answers where a blank stands beside another value. Proved of the Go text. -/
import Derived.Test.YtgnmkhjilecdhaaGreatDoorRCmp4
namespace Go.Proofs.YtgnmkhjilecdhaaGreatDoor
open Go.RowKit Go.Sort
set_option linter.unusedVariables false

end Go.Proofs.YtgnmkhjilecdhaaGreatDoor
