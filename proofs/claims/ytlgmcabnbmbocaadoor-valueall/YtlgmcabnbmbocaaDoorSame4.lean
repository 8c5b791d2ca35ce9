/- Whether two values are the same, the texts of the errors, the reference's classes. Proved of the Go text. -/
import Derived.Test.YtlgmcabnbmbocaaDoorNums4
namespace Go.Proofs.YtlgmcabnbmbocaaDoor
open Go.RowKit Go.Sort
set_option linter.unusedVariables false

abbrev e1T : ByteArray := { data := #[35, 78, 65, 77, 69, 63] }
abbrev e2T : ByteArray := { data := #[35, 78, 85, 77, 33] }
abbrev e3T : ByteArray := { data := #[35, 82, 69, 70, 33] }
abbrev e4T : ByteArray := { data := #[35, 86, 65, 76, 85, 69, 33] }
abbrev e5T : ByteArray := { data := #[35, 68, 73, 86, 47, 48, 33] }
abbrev e6T : ByteArray := { data := #[35, 78, 47, 65] }
abbrev e7T : ByteArray := { data := #[35, 67, 89, 67, 76, 69, 33] }
set_option maxHeartbeats 400000 in
theorem vsame_yes (k i : Int) (t : ByteArray) : CallIs 16 #[vV k i t, vV k i t] (.bool true) := by
  intro w
  go_enter Tryd.func16, Tryd.ntmps16
  go_wp2_with fail
  go_ret
  exact ⟨rfl, by go_grown⟩
set_option maxHeartbeats 400000 in
theorem vsame_k {k i k' i' : Int} {t t' : ByteArray} (h : (k == k') = false) : CallIs 16 #[vV k i t, vV k' i' t'] (.bool false) := by
  intro w
  go_enter Tryd.func16, Tryd.ntmps16
  go_wp2_with fail
  go_ret
  exact ⟨rfl, by go_grown⟩
set_option maxHeartbeats 400000 in
theorem vsame_i {k i i' : Int} {t t' : ByteArray} (h : (i == i') = false) : CallIs 16 #[vV k i t, vV k i' t'] (.bool false) := by
  intro w
  go_enter Tryd.func16, Tryd.ntmps16
  go_wp2_with fail
  go_ret
  exact ⟨rfl, by go_grown⟩
set_option maxHeartbeats 400000 in
theorem vsame_t {k i : Int} {t t' : ByteArray} (h : (t.toList == t'.toList) = false) : CallIs 16 #[vV k i t, vV k i t'] (.bool false) := by
  intro w
  go_enter Tryd.func16, Tryd.ntmps16
  go_wp2_with fail
  go_ret
  exact ⟨rfl, by go_grown⟩
set_option maxHeartbeats 400000 in
theorem rsame_yes (k i : Int) (t : ByteArray) : CallIs 18 #[vV k i t, vV k i t] (.bool true) := by
  intro w
  go_enter Tryd.func18, Tryd.ntmps18
  go_wp2_with fail
  go_ret
  exact ⟨rfl, by go_grown⟩
set_option maxHeartbeats 400000 in
theorem rsame_k {k i k' i' : Int} {t t' : ByteArray} (h : (k == k') = false) : CallIs 18 #[vV k i t, vV k' i' t'] (.bool false) := by
  intro w
  go_enter Tryd.func18, Tryd.ntmps18
  go_wp2_with fail
  go_ret
  exact ⟨rfl, by go_grown⟩
set_option maxHeartbeats 400000 in
theorem rsame_i {k i i' : Int} {t t' : ByteArray} (h : (i == i') = false) : CallIs 18 #[vV k i t, vV k i' t'] (.bool false) := by
  intro w
  go_enter Tryd.func18, Tryd.ntmps18
  go_wp2_with fail
  go_ret
  exact ⟨rfl, by go_grown⟩
set_option maxHeartbeats 400000 in
theorem rsame_t {k i : Int} {t t' : ByteArray} (h : (t.toList == t'.toList) = false) : CallIs 18 #[vV k i t, vV k i t'] (.bool false) := by
  intro w
  go_enter Tryd.func18, Tryd.ntmps18
  go_wp2_with fail
  go_ret
  exact ⟨rfl, by go_grown⟩
set_option maxHeartbeats 400000 in
theorem etext1  : CallIs 26 #[.int .i64 1] (.string e1T) := by
  intro w
  go_enter Tryd.func26, Tryd.ntmps26
  go_wp2_with fail
  go_ret
  exact ⟨rfl, by go_grown⟩
set_option maxHeartbeats 400000 in
theorem etext2  : CallIs 26 #[.int .i64 2] (.string e2T) := by
  intro w
  go_enter Tryd.func26, Tryd.ntmps26
  go_wp2_with fail
  go_ret
  exact ⟨rfl, by go_grown⟩
set_option maxHeartbeats 400000 in
theorem etext3  : CallIs 26 #[.int .i64 3] (.string e3T) := by
  intro w
  go_enter Tryd.func26, Tryd.ntmps26
  go_wp2_with fail
  go_ret
  exact ⟨rfl, by go_grown⟩
set_option maxHeartbeats 400000 in
theorem etext4  : CallIs 26 #[.int .i64 4] (.string e4T) := by
  intro w
  go_enter Tryd.func26, Tryd.ntmps26
  go_wp2_with fail
  go_ret
  exact ⟨rfl, by go_grown⟩
set_option maxHeartbeats 400000 in
theorem etext5  : CallIs 26 #[.int .i64 5] (.string e5T) := by
  intro w
  go_enter Tryd.func26, Tryd.ntmps26
  go_wp2_with fail
  go_ret
  exact ⟨rfl, by go_grown⟩
set_option maxHeartbeats 400000 in
theorem etext6  : CallIs 26 #[.int .i64 6] (.string e6T) := by
  intro w
  go_enter Tryd.func26, Tryd.ntmps26
  go_wp2_with fail
  go_ret
  exact ⟨rfl, by go_grown⟩
set_option maxHeartbeats 400000 in
theorem etext7  : CallIs 26 #[.int .i64 7] (.string e7T) := by
  intro w
  go_enter Tryd.func26, Tryd.ntmps26
  go_wp2_with fail
  go_ret
  exact ⟨rfl, by go_grown⟩
abbrev errO : Obj := .cells #[.string no, .string e1T, .string e2T, .string e3T, .string e4T, .string e5T, .string e6T, .string e7T] 9
set_option maxHeartbeats 400000 in
theorem errors_is (w : World) : Calls Tryd.prog 42 #[] w fun e w' => e = .returned (.slice (some ⟨w.heap.size, 0, none⟩) 8 8) ∧ w' = w.alloc errO := by
  go_enter Tryd.func42, Tryd.ntmps42
  go_wp2_with fail
  go_ret
  exact ⟨rfl, rfl⟩
set_option maxHeartbeats 400000 in
theorem class0 (i : Int) (t : ByteArray) : CallIs 40 #[vV 0 i t] (.int .i64 0) := by
  intro w
  go_enter Tryd.func40, Tryd.ntmps40
  go_wp2_with fail
  go_ret
  exact ⟨rfl, by go_grown⟩
set_option maxHeartbeats 400000 in
theorem class1 (i : Int) (t : ByteArray) : CallIs 40 #[vV 1 i t] (.int .i64 1) := by
  intro w
  go_enter Tryd.func40, Tryd.ntmps40
  go_wp2_with fail
  go_ret
  exact ⟨rfl, by go_grown⟩
set_option maxHeartbeats 400000 in
theorem class2 (i : Int) (t : ByteArray) : CallIs 40 #[vV 2 i t] (.int .i64 3) := by
  intro w
  go_enter Tryd.func40, Tryd.ntmps40
  go_wp2_with fail
  go_ret
  exact ⟨rfl, by go_grown⟩
set_option maxHeartbeats 400000 in
theorem class3 (i : Int) (t : ByteArray) : CallIs 40 #[vV 3 i t] (.int .i64 2) := by
  intro w
  go_enter Tryd.func40, Tryd.ntmps40
  go_wp2_with fail
  go_ret
  exact ⟨rfl, by go_grown⟩
set_option maxHeartbeats 400000 in
theorem class4 (i : Int) (t : ByteArray) : CallIs 40 #[vV 4 i t] (.int .i64 4) := by
  intro w
  go_enter Tryd.func40, Tryd.ntmps40
  go_wp2_with fail
  go_ret
  exact ⟨rfl, by go_grown⟩
end Go.Proofs.YtlgmcabnbmbocaaDoor
