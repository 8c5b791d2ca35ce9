/- What area.Of and the reference's Of answer, for every two places. Proved of the Go text. -/
import Derived.Test.YtibogmlnbipbbaaKit3
namespace Go.Proofs.Ytibogmlnbipbbaa
open Go.RowKit Go.Sort
set_option linter.unusedVariables false

set_option maxHeartbeats 1000000 in
set_option maxRecDepth 100000 in
theorem aof_any (a b c d : Int) (w : World) : Calls Try.prog 17 #[spotV a b, spotV c d] w fun e w' => e = .returned (areaV (min a c) (min b d) (max a c) (max b d)) ∧ Below w.heap.size w w' := by
  have hmn := ite_min
  have hmx := ite_max
  go_enter Try.func17, Try.ntmps17
  try simp only [List.append]
  go_wp2_with fail
  go_returns
  exact ⟨rfl, by go_grown⟩
set_option maxHeartbeats 1000000 in
set_option maxRecDepth 100000 in
theorem rof_any (a b c d : Int) (w : World) : Calls Try.prog 23 #[spotV a b, spotV c d] w fun e w' => e = .returned (areaV (min a c) (min b d) (max a c) (max b d)) ∧ Below w.heap.size w w' := by
  have hmn := ite_min
  have hmx := ite_max
  go_enter Try.func23, Try.ntmps23
  try simp only [List.append]
  go_wp2_with fail
  go_returns
  exact ⟨rfl, by go_grown⟩
end Go.Proofs.Ytibogmlnbipbbaa
