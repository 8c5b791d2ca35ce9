/- What the reference's At answers, for every area that may be and every place's number in row order. Proved of the Go text. -/
import Derived.Test.YtchphbclaapfhaaGreatDoorS3J
import Derived.BigRegion
namespace Go.Proofs.YtchphbclaapfhaaGreatDoor.T3
open Go.RowKit Go.Sort
set_option linter.unusedVariables false

set_option maxHeartbeats 1000000 in
set_option maxRecDepth 100000 in
theorem at_any (t l b r i : Int) (w : World) (ho : 0 ≤ t ∧ t ≤ b ∧ b < 65536 ∧ 0 ≤ l ∧ l ≤ r ∧ r < 702) (hi : 0 ≤ i) (hi' : i < (b - t + 1) * (r - l + 1)) :
    Calls Tryz.prog 14 #[areaV t l b r, .int .i64 i] w fun e w' => e = .returned (spotV (t + i / (r - l + 1)) (l + i % (r - l + 1))) ∧ Below w.heap.size w w' := by
  obtain ⟨n1, n2⟩ := prod_bound (b - t + 1) (r - l + 1) (by omega) (by omega) (by omega) (by omega)
  have q1 : 0 ≤ i / (r - l + 1) := Int.ediv_nonneg hi (by omega)
  have q2 : i / (r - l + 1) ≤ i := Int.ediv_le_self _ hi
  have q3 : 0 ≤ i % (r - l + 1) := Int.emod_nonneg _ (by omega)
  have q4 : i % (r - l + 1) < r - l + 1 := Int.emod_lt_of_pos _ (by omega)
  have d1 : (i.tdiv (r - l + 1)) = i / (r - l + 1) := Int.tdiv_eq_ediv_of_nonneg hi
  have d2 : (i.tmod (r - l + 1)) = i % (r - l + 1) := Int.tmod_eq_emod_of_nonneg hi
  have z : ((r - l + 1 : Int) == 0) = false := by rw [beq_eq_false_iff_ne]; omega
  obtain ⟨o1, o2, o3, o4, o5, o6⟩ := ho
  go_enter Tryz.func14, Tryz.ntmps14
  try simp only [List.append]
  go_wp2_with fail
  go_region
  all_goals go_wp2_with fail
  all_goals go_returns
  all_goals exact ⟨rfl, by go_grown⟩
end Go.Proofs.YtchphbclaapfhaaGreatDoor.T3
