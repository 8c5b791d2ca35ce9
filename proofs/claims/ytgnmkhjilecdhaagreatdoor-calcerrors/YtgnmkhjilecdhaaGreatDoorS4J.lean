/- Whether two values are the same, the texts of the errors, the reference's classes. Proved of the Go text. What package value and the reference show of a value. Proved of the Go text. What a cell's text is worth, by package value and by the reference, form by form. Proved of the Go text. What Literal answers, by package value and by the reference, form by form. Proved of the Go text. -/
import Derived.Test.YtgnmkhjilecdhaaGreatDoorNums4
namespace Go.Proofs.YtgnmkhjilecdhaaGreatDoor
open Go.RowKit Go.Sort
set_option linter.unusedVariables false

abbrev e1T : ByteArray := { data := #[35, 78, 65, 77, 69, 63] }
abbrev e2T : ByteArray := { data := #[35, 78, 85, 77, 33] }
abbrev e3T : ByteArray := { data := #[35, 82, 69, 70, 33] }
abbrev e4T : ByteArray := { data := #[35, 86, 65, 76, 85, 69, 33] }
abbrev e5T : ByteArray := { data := #[35, 68, 73, 86, 47, 48, 33] }
abbrev e6T : ByteArray := { data := #[35, 78, 47, 65] }
abbrev e7T : ByteArray := { data := #[35, 67, 89, 67, 76, 69, 33] }
abbrev errO : Obj := .cells #[.string no, .string e1T, .string e2T, .string e3T, .string e4T, .string e5T, .string e6T, .string e7T] 9
end Go.Proofs.YtgnmkhjilecdhaaGreatDoor
namespace Go.Proofs.YtgnmkhjilecdhaaGreatDoor
open Go.RowKit Go.Sort
set_option linter.unusedVariables false

end Go.Proofs.YtgnmkhjilecdhaaGreatDoor
namespace Go.Proofs.YtgnmkhjilecdhaaGreatDoor
open Go.RowKit Go.Sort
set_option linter.unusedVariables false

end Go.Proofs.YtgnmkhjilecdhaaGreatDoor
namespace Go.Proofs.YtgnmkhjilecdhaaGreatDoor
open Go.RowKit Go.Sort
set_option linter.unusedVariables false

theorem err_cells {W w : World} (hb : Below (W.alloc errO).heap.size (W.alloc errO) w) : w.cell? ⟨W.heap.size, 1, none⟩ = some (.string e1T) ∧ w.cell? ⟨W.heap.size, 2, none⟩ = some (.string e2T) ∧ w.cell? ⟨W.heap.size, 3, none⟩ = some (.string e3T) ∧ w.cell? ⟨W.heap.size, 4, none⟩ = some (.string e4T) ∧ w.cell? ⟨W.heap.size, 5, none⟩ = some (.string e5T) ∧ w.cell? ⟨W.heap.size, 6, none⟩ = some (.string e6T) := by
  refine ⟨?_, ?_, ?_, ?_, ?_, ?_⟩ <;> refine keep1 hb ?_ <;> go_simp
end Go.Proofs.YtgnmkhjilecdhaaGreatDoor
