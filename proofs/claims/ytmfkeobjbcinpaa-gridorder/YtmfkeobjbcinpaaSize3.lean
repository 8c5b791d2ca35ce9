/- What area.Size, the reference's Size and its Places answer, for every area. Proved of the Go text. -/
import Derived.Test.YtmfkeobjbcinpaaMay3
namespace Go.Proofs.Ytmfkeobjbcinpaa
open Go.RowKit Go.Sort
set_option linter.unusedVariables false

set_option maxHeartbeats 1000000 in
set_option maxRecDepth 100000 in
theorem asize_bad (t l b r : Int) (w : World) (HM : MayIs t l b r 11) :
    Calls Try.prog 52 #[areaV t l b r] w fun e w' => e = .returned (.tuple #[.int .i64 0, .int .i64 11]) ∧ Below w.heap.size w w' := by
  go_enter Try.func52, Try.ntmps52
  try simp only [List.append]
  go_wp2_with fail
  refine (HM.out _).mono ?_
  rintro e w1 ⟨rfl, hb1⟩
  have B1 := hide (next (step (Below.refl w.heap.size w) _) hb1)
  have ca := hide ((O4.new w (.int .i64 t) (.int .i64 l) (.int .i64 b) (.int .i64 r) 37).keep hb1)
  go_wp2_with fail
  go_ret2
  exact ⟨rfl, B1.out⟩
set_option maxHeartbeats 1000000 in
set_option maxRecDepth 100000 in
theorem asize_long (t l b r : Int) (w : World) (ho : 0 ≤ t ∧ t ≤ b ∧ b < 65536 ∧ 0 ≤ l ∧ l ≤ r ∧ r < 702) (hp : 4096 < (b - t + 1) * (r - l + 1)) (HM : MayIs t l b r 0) :
    Calls Try.prog 52 #[areaV t l b r] w fun e w' => e = .returned (.tuple #[.int .i64 0, .int .i64 2]) ∧ Below w.heap.size w w' := by
  obtain ⟨n1, n2⟩ := prod_bound (b - t + 1) (r - l + 1) (by omega) (by omega) (by omega) (by omega)
  obtain ⟨o1, o2, o3, o4, o5, o6⟩ := ho
  go_enter Try.func52, Try.ntmps52
  try simp only [List.append]
  go_wp2_with fail
  refine (HM.out _).mono ?_
  rintro e w1 ⟨rfl, hb1⟩
  have B1 := hide (next (step (Below.refl w.heap.size w) _) hb1)
  have ca := hide ((O4.new w (.int .i64 t) (.int .i64 l) (.int .i64 b) (.int .i64 r) 37).keep hb1)
  have ca00 := ca.out.1.1
  have ca01 := ca.out.1.2.1
  have ca02 := ca.out.1.2.2.1
  have ca03 := ca.out.1.2.2.2
  go_wp2_with fail
  go_quiet (fail)
  go_wp2_with fail
  go_ret2
  exact ⟨rfl, by first | exact below_drewN B1.out _ | exact B1.out.drew⟩
set_option maxHeartbeats 1000000 in
set_option maxRecDepth 100000 in
theorem asize_yes (t l b r : Int) (w : World) (ho : 0 ≤ t ∧ t ≤ b ∧ b < 65536 ∧ 0 ≤ l ∧ l ≤ r ∧ r < 702) (hp : ¬ 4096 < (b - t + 1) * (r - l + 1)) (HM : MayIs t l b r 0) :
    Calls Try.prog 52 #[areaV t l b r] w fun e w' => e = .returned (.tuple #[.int .i64 ((b - t + 1) * (r - l + 1)), .int .i64 0]) ∧ Below w.heap.size w w' := by
  obtain ⟨n1, n2⟩ := prod_bound (b - t + 1) (r - l + 1) (by omega) (by omega) (by omega) (by omega)
  obtain ⟨o1, o2, o3, o4, o5, o6⟩ := ho
  go_enter Try.func52, Try.ntmps52
  try simp only [List.append]
  go_wp2_with fail
  refine (HM.out _).mono ?_
  rintro e w1 ⟨rfl, hb1⟩
  have B1 := hide (next (step (Below.refl w.heap.size w) _) hb1)
  have ca := hide ((O4.new w (.int .i64 t) (.int .i64 l) (.int .i64 b) (.int .i64 r) 37).keep hb1)
  have ca00 := ca.out.1.1
  have ca01 := ca.out.1.2.1
  have ca02 := ca.out.1.2.2.1
  have ca03 := ca.out.1.2.2.2
  go_wp2_with fail
  go_quiet (fail)
  go_wp2_with fail
  go_ret2
  exact ⟨rfl, by first | exact below_drewN B1.out _ | exact B1.out.drew⟩
end Go.Proofs.Ytmfkeobjbcinpaa
