/- The document's numbers of sign and size (the reference's of, fits, told, sum, product): what each computes, proved of the Go text. -/
import Derived.Test.YtgnmkhjilecdhaaGreatDoorRows
import Derived.Test.YtgnmkhjilecdhaaGreatDoorBaJ
import Derived.Test.YtgnmkhjilecdhaaGreatDoorPow
import Derived.WalkKit
import Derived.WalkSpells
import Derived.WalkLawsBesides
import Derived.Handy
import Derived.RegionTactic
import Derived.BigRegion
import Derived.ChangeAlike
namespace Go.Proofs.YtgnmkhjilecdhaaGreatDoor
open Go.RowKit
set_option linter.unusedVariables false

abbrev num (s o : Bool) (m : Int) : Value := .agg #[.bool s, .bool o, .int .u64 m]
end Go.Proofs.YtgnmkhjilecdhaaGreatDoor
