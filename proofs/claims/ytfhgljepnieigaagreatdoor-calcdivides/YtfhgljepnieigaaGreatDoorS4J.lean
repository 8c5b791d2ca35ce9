/- Whether two values are the same, the texts of the errors, the reference's classes. Proved of the Go text. What package value and the reference show of a value. Proved of the Go text. What a cell's text is worth, by package value and by the reference, form by form. Proved of the Go text. What Literal answers, by package value and by the reference, form by form. Proved of the Go text. -/
import Derived.Test.YtfhgljepnieigaaGreatDoorNums4
namespace Go.Proofs.YtfhgljepnieigaaGreatDoor
open Go.RowKit Go.Sort
set_option linter.unusedVariables false

abbrev e1T : ByteArray := { data := #[35, 78, 65, 77, 69, 63] }
abbrev e2T : ByteArray := { data := #[35, 78, 85, 77, 33] }
abbrev e3T : ByteArray := { data := #[35, 82, 69, 70, 33] }
abbrev e4T : ByteArray := { data := #[35, 86, 65, 76, 85, 69, 33] }
abbrev e5T : ByteArray := { data := #[35, 68, 73, 86, 47, 48, 33] }
abbrev e6T : ByteArray := { data := #[35, 78, 47, 65] }
abbrev e7T : ByteArray := { data := #[35, 67, 89, 67, 76, 69, 33] }
abbrev errO : Obj := .cells #[.string no, .string e1T, .string e2T, .string e3T, .string e4T, .string e5T, .string e6T, .string e7T] 9
set_option maxHeartbeats 400000 in
theorem class0 (i : Int) (t : ByteArray) : CallIs 150 #[vV 0 i t] (.int .i64 0) := by
  intro w
  go_enter Tryz.func150, Tryz.ntmps150
  go_wp2_with fail
  go_ret
  exact ⟨rfl, by go_grown⟩
set_option maxHeartbeats 400000 in
theorem class1 (i : Int) (t : ByteArray) : CallIs 150 #[vV 1 i t] (.int .i64 1) := by
  intro w
  go_enter Tryz.func150, Tryz.ntmps150
  go_wp2_with fail
  go_ret
  exact ⟨rfl, by go_grown⟩
set_option maxHeartbeats 400000 in
theorem class2 (i : Int) (t : ByteArray) : CallIs 150 #[vV 2 i t] (.int .i64 3) := by
  intro w
  go_enter Tryz.func150, Tryz.ntmps150
  go_wp2_with fail
  go_ret
  exact ⟨rfl, by go_grown⟩
set_option maxHeartbeats 400000 in
theorem class3 (i : Int) (t : ByteArray) : CallIs 150 #[vV 3 i t] (.int .i64 2) := by
  intro w
  go_enter Tryz.func150, Tryz.ntmps150
  go_wp2_with fail
  go_ret
  exact ⟨rfl, by go_grown⟩
set_option maxHeartbeats 400000 in
theorem class4 (i : Int) (t : ByteArray) : CallIs 150 #[vV 4 i t] (.int .i64 4) := by
  intro w
  go_enter Tryz.func150, Tryz.ntmps150
  go_wp2_with fail
  go_ret
  exact ⟨rfl, by go_grown⟩
end Go.Proofs.YtfhgljepnieigaaGreatDoor
namespace Go.Proofs.YtfhgljepnieigaaGreatDoor
open Go.RowKit Go.Sort
set_option linter.unusedVariables false

end Go.Proofs.YtfhgljepnieigaaGreatDoor
namespace Go.Proofs.YtfhgljepnieigaaGreatDoor
open Go.RowKit Go.Sort
set_option linter.unusedVariables false

set_option maxHeartbeats 1000000 in
theorem rtext_good (s : ByteArray) (h : s.size ≤ 32767) : CallIs 56 #[.string s] (vV 3 0 s) := by
  intro w
  have hz : ¬ (32767 : Int) < s.size := by omega
  go_enter Tryz.func56, Tryz.ntmps56
  try simp only [List.append]
  go_wp2_with fail
  go_returns
  exact ⟨rfl, by go_grown⟩
set_option maxHeartbeats 1000000 in
theorem rtext_bad (s : ByteArray) (h : ¬ s.size ≤ 32767) : CallIs 56 #[.string s] (vV 4 4 no) := by
  intro w
  have hz : (32767 : Int) < s.size := by omega
  have HE := rerr_is 4
  go_enter Tryz.func56, Tryz.ntmps56
  try simp only [List.append]
  go_wp2_with fail
  refine (HE.out _).mono ?_
  rintro e w1 ⟨rfl, hb1⟩
  have B1 := hide (next (step (Below.refl w.heap.size w) _) hb1)
  have cr := hide ((O3.new w (.int .i64 0) (.int .i64 0) (.string no) 26).keep hb1)
  have crw100 := cr.out.1.1
  have crw101 := cr.out.1.2.1
  have crw102 := cr.out.1.2.2
  have crw10f := cr.out.2
  have B1p := hide (below_put3 (b := w.heap.size) (B1.out) (by omega) (.int .i64 4) (.int .i64 4) (.string no))
  replace cr := hide (cr.out.put (.int .i64 4) (.int .i64 4) (.string no))
  obtain ⟨w1p, hw1p⟩ : ∃ w1p, put3 w1 (w.heap.size) (.int .i64 4) (.int .i64 4) (.string no) = w1p := ⟨_, rfl⟩
  rw [hw1p] at B1p cr
  unfold put3 at hw1p
  have crw1p00 := cr.out.1.1
  have crw1p01 := cr.out.1.2.1
  have crw1p02 := cr.out.1.2.2
  go_wp2_with fail
  refine bodyPost_ret (by simp [results, Tryz.results56, go_sem, crw1p00, crw1p01, crw1p02]; try rfl) rfl ?_
  exact ⟨rfl, B1p.out⟩
end Go.Proofs.YtfhgljepnieigaaGreatDoor
namespace Go.Proofs.YtfhgljepnieigaaGreatDoor
open Go.RowKit Go.Sort
set_option linter.unusedVariables false

theorem err_cells {W w : World} (hb : Below (W.alloc errO).heap.size (W.alloc errO) w) : w.cell? ⟨W.heap.size, 1, none⟩ = some (.string e1T) ∧ w.cell? ⟨W.heap.size, 2, none⟩ = some (.string e2T) ∧ w.cell? ⟨W.heap.size, 3, none⟩ = some (.string e3T) ∧ w.cell? ⟨W.heap.size, 4, none⟩ = some (.string e4T) ∧ w.cell? ⟨W.heap.size, 5, none⟩ = some (.string e5T) ∧ w.cell? ⟨W.heap.size, 6, none⟩ = some (.string e6T) := by
  refine ⟨?_, ?_, ?_, ?_, ?_, ?_⟩ <;> refine keep1 hb ?_ <;> go_simp
end Go.Proofs.YtfhgljepnieigaaGreatDoor
