/- What quadrillelaw14.sound answers: of a text that it calls sound no rune is wrong but one whose byte is 239. Proved of the Go text. -/
import Derived.Test.YtgnmkhjilecdhaaGreatDoorCtM5
namespace Go.Proofs.YtgnmkhjilecdhaaGreatDoor.T5
open Go.RowKit Go.Sort
set_option linter.unusedVariables false
set_option maxRecDepth 100000

theorem get_at (s : ByteArray) (i : Nat) (h : i < s.size) : s[i] = s.get! i := by
  rw [get_list, List.getD_eq_getElem?_getD, List.getElem?_eq_getElem (by rw [sz_list]; exact h)]
  rfl
end Go.Proofs.YtgnmkhjilecdhaaGreatDoor.T5
