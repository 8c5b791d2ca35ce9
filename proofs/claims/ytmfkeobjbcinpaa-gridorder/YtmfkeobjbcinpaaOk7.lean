/- Small facts on areas and on a table's places. -/
import Derived.Test.YtmfkeobjbcinpaaIt7
namespace Go.Proofs.Ytmfkeobjbcinpaa
open Go.RowKit Go.Shelf Go.Sort Go.Maps
set_option linter.unusedVariables false

theorem keys_filter {α : Type} (L : Tb α) (f : Sp → Bool) : (keysT L).filter f = keysT (L.filter fun p => f p.1) := by
  unfold keysT
  rw [List.filter_map]
  rfl
theorem may_ok {t l b r : Int} (h : 0 ≤ t ∧ t ≤ b ∧ b < 65536 ∧ 0 ≤ l ∧ l ≤ r ∧ r < 702) : MayIs t l b r 0 := by have := amay_any t l b r; rw [eA_ok h] at this; exact hide this
theorem may_no {t l b r : Int} (h : ¬ (0 ≤ t ∧ t ≤ b ∧ b < 65536 ∧ 0 ≤ l ∧ l ≤ r ∧ r < 702)) : MayIs t l b r 11 := by have := amay_any t l b r; rw [eA_no h] at this; exact hide this
end Go.Proofs.Ytmfkeobjbcinpaa
