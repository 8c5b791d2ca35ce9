/- plays: every call is as the document says. -/
import Derived.Test.YtgopolelpckjcaaPlays9a
import Derived.Test.YtgopolelpckjcaaPlays9b
import Derived.Test.YtgopolelpckjcaaPlays9c
import Derived.Test.YtgopolelpckjcaaPlays9d
namespace Go.Proofs.Ytgopolelpckjcaa
open Go.RowKit Go.Sort
set_option linter.unusedVariables false

theorem plays_any (k : Int) (n1 : Nd) (ks : List Ex) (a1 : Option Addr) (l1 c1 : Nat) (n2 : Nd) (ls : List Ex) (a2 : Option Addr) (l2 c2 : Nat) (w : World) (h1 : Tree w (exV n1 (.slice a1 l1 c1)) (.mk n1 ks)) (h2 : Tree w (exV n2 (.slice a2 l2 c2)) (.mk n2 ls)) :
    Calls Try.prog 7 #[.agg (opC k n1 (.slice a1 l1 c1) n2 (.slice a2 l2 c2))] w fun e w' => e = .returned (.bool true) ∧ Below w.heap.size w w' := by
  by_cases k1 : k = 1
  · exact plays_may k k1 n1 ks a1 l1 c1 n2 ls a2 l2 c2 w h1 h2
  by_cases k2 : k = 2
  · exact plays_size k k2 n1 ks a1 l1 c1 n2 ls a2 l2 c2 w h1 h2
  by_cases k3 : k = 3
  · exact plays_same k k3 n1 ks a1 l1 c1 n2 ls a2 l2 c2 w h1 h2
  by_cases k4 : k = 4
  · cases hf : fitB (.mk n1 ks)
    · exact plays_copyn k k4 n1 ks a1 l1 c1 n2 ls a2 l2 c2 w hf h1 h2
    · exact plays_copyy k k4 n1 ks a1 l1 c1 n2 ls a2 l2 c2 w hf h1 h2
  by_cases k5 : k = 5
  · by_cases hf : mayR (.mk n1 ks) = 0
    · exact plays_readsy k k5 n1 ks a1 l1 c1 n2 ls a2 l2 c2 w hf h1 h2
    · exact plays_readsn k k5 n1 ks a1 l1 c1 n2 ls a2 l2 c2 w hf h1 h2
  exact plays_else k ⟨k1, k2, k3, k4, k5⟩ n1 ks a1 l1 c1 n2 ls a2 l2 c2 w h1 h2
end Go.Proofs.Ytgopolelpckjcaa
