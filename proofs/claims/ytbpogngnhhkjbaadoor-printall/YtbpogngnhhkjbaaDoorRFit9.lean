/- quadrilleref9.fits: what it answers of every node. -/
import Derived.Test.YtbpogngnhhkjbaaDoorFitJ
namespace Go.Proofs.YtbpogngnhhkjbaaDoor.T9
open Go.RowKit Go.Sort
set_option linter.unusedVariables false

theorem rfits_any (n : Nd) (a : Option Addr) (len cap : Nat) (hlen : len ≤ 4611686018427387904) (w : World) : Calls Tryd.prog 40 #[exV n (.slice a len cap)] w fun e w' => e = .returned (.bool (toldB n len)) ∧ Below w.heap.size w w' := by
  by_cases h1 : n.kind = 1
  · exact fits_1 n a len cap hlen h1 w
  by_cases h2 : n.kind = 2
  · exact fits_2 n a len cap hlen h2 w
  by_cases h3 : n.kind = 3
  · exact fits_3 n a len cap hlen h3 w
  by_cases h4 : n.kind = 4
  · exact fits_4 n a len cap hlen h4 w
  by_cases h5 : n.kind = 5
  · exact fits_5 n a len cap hlen h5 w
  by_cases h6 : n.kind = 6
  · exact fits_6 n a len cap hlen h6 w
  by_cases h7 : n.kind = 7
  · exact fits_7 n a len cap hlen h7 w
  by_cases h8 : n.kind = 8
  · exact fits_8 n a len cap hlen h8 w
  by_cases h9 : n.kind = 9
  · by_cases hf : 1 ≤ n.fn ∧ n.fn ≤ 76
    · exact fits_9y n a len cap hlen h9 (n.fn - 1).toNat (by omega) (by omega) w
    · exact fits_9n n a len cap hlen h9 hf w
  exact fits_0 n a len cap hlen ⟨h1, h2, h3, h4, h5, h6, h7, h8, h9⟩ w
end Go.Proofs.YtbpogngnhhkjbaaDoor.T9
