/- LexPlaces: what the law answers, for every text: true. Proved of the Go text. -/
import Derived.Test.YtljdkmfigcclkaaDoorLexPl1
import Derived.Test.YtljdkmfigcclkaaDoorLexPl2
namespace Go.Proofs.YtljdkmfigcclkaaDoor
open Go.RowKit Go.Sort
set_option linter.unusedVariables false

theorem lexPlaces_walk {W : World} (hL : Lay8 W) (s : ByteArray) (hm : s.size ≤ maxLen) :
    Calls Tryd.prog 5 #[.string s] W fun e w' => e = .returned (.bool true) ∧ Below W.heap.size W w' := by
  cases hc : cutR s with
  | ok ws => exact lexPl_ok hL s (by unfold cutR at hc; split at hc; cases hc; omega) hc
  | bad i e => exact lexPl_bad hL s hm hc
end Go.Proofs.YtljdkmfigcclkaaDoor
