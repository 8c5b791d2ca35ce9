/- TreeTurned: the law's walk, for every tree. -/
import Derived.Test.YtdegfmebgllklaaTurn9a
import Derived.Test.YtdegfmebgllklaaTurn9b
import Derived.Test.YtdegfmebgllklaaTurn9c
import Derived.Test.YtdegfmebgllklaaTurn9d
import Derived.Test.YtdegfmebgllklaaTurn9e
import Derived.Test.YtdegfmebgllklaaTurn9f
import Derived.Test.YtdegfmebgllklaaTurn9g
namespace Go.Proofs.Ytdegfmebgllklaa
open Go.RowKit Go.Sort
set_option linter.unusedVariables false

theorem treeTurned_walk (t : Ex) (v : Value) (q : Int) (hq : (Lit.int .u8 q).wf = true) (n : Int) (hn : (Lit.int .i64 n).wf = true) (w : World) (ht : Tree w v t) :
    Calls Try.prog 7 #[v, .int .u8 q, .int .i64 n] w fun e w' => e = .returned (.bool true) ∧ Below w.heap.size w w' := by
  obtain ⟨nd, ks⟩ := t
  have hn' : -9223372036854775808 ≤ n ∧ n ≤ 9223372036854775807 := by
    simp only [Lit.wf, Bool.and_eq_true, decide_eq_true_eq, show IntKind.i64.min = -9223372036854775808 from rfl, show IntKind.i64.max = 9223372036854775807 from rfl] at hn
    exact hn
  have hq' : 0 ≤ q ∧ q ≤ 255 := by
    simp only [Lit.wf, Bool.and_eq_true, decide_eq_true_eq, show IntKind.u8.min = 0 from rfl, show IntKind.u8.max = 255 from rfl] at hq
    exact hq
  by_cases hm : mayR (.mk nd ks) = 0
  · by_cases h0 : n = 0
    · subst h0; exact turned_zero nd ks v q w ht hm
    · have h6 : q % 6 = 0 ∨ q % 6 = 1 ∨ q % 6 = 2 ∨ q % 6 = 3 ∨ q % 6 = 4 ∨ q % 6 = 5 := by omega
      rcases h6 with h | h | h | h | h | h
      · exact turned_op nd ks v q n w ht hm h0 hn' hq' h
      · exact turned_num nd ks v q n w ht hm h0 hn' hq' h
      · exact turned_text nd ks v q n w ht hm h0 hn' hq' h
      · exact turned_row nd ks v q n w ht hm h0 hn' hq' h
      · exact turned_pin nd ks v q n w ht hm h0 hn' hq' h
      · exact turned_kids nd ks v q n w ht hm h0 hn' hq' h
  · exact turned_no nd ks v q n w ht hm
end Go.Proofs.Ytdegfmebgllklaa
