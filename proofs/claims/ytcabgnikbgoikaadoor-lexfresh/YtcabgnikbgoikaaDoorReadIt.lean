/- What spot.Text, spot.Read, readCorner and between answer, for every place, text and corners: proved of the Go text. -/
import Derived.Test.YtcabgnikbgoikaaDoorReadRef
namespace Go.Proofs.YtcabgnikbgoikaaDoor
open Go.RowKit
set_option linter.unusedVariables false

/-- A text that is no place's. -/
def rdBad (s : ByteArray) : Bool := rE s == 20 || (rN s != s.size || !plainL s.data.toList)
theorem rE_cases (s : ByteArray) : rE s = 20 ∨ rE s = 10 ∨ rE s = 0 := by unfold rE; split; exact .inl rfl; split; exact .inr (.inl rfl); exact .inr (.inr rfl)
theorem rN_le (s : ByteArray) : rN s ≤ s.size := by unfold rN; split; omega; exact (cut_le s).2.2.2
theorem below_drewN {B : Nat} {a w : World} (h : Below B a w) (n : Nat) : Below B a (w.drewN n) := ⟨h.os, h.tape, h.output, h.size, h.block⟩
theorem prod_bound (x y : Int) (hx : 0 ≤ x) (hx' : x ≤ 65536) (hy : 0 ≤ y) (hy' : y ≤ 702) : 0 ≤ x * y ∧ x * y ≤ 46006272 :=
  ⟨Int.mul_nonneg hx hy, Int.le_trans (Int.mul_le_mul hx' hy' hy (by decide)) (by decide)⟩
end Go.Proofs.YtcabgnikbgoikaaDoor
