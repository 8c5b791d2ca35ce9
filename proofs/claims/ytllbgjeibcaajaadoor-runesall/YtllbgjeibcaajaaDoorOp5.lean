/- The block of one call, as plays holds it: its six cells through calls and the three texts that are cut. -/
import Derived.Test.YtllbgjeibcaajaaDoorSame5
import Derived.Test.YtllbgjeibcaajaaDoorBlk5
import Derived.Test.YtllbgjeibcaajaaDoorQTail
import Derived.Test.YtllbgjeibcaajaaDoorTimes5
namespace Go.Proofs.YtllbgjeibcaajaaDoor
open Go.RowKit Go.Sort
set_option linter.unusedVariables false

abbrev opC (k : Int) (s t u : ByteArray) (n m : Int) : Array Value := #[.int .i64 k, .string s, .string t, .string u, .int .i64 n, .int .i64 m]
abbrev OpAt (w : World) (b : Nat) (k : Int) (s t u : ByteArray) (n m : Int) : Prop := Blk w b (opC k s t u n m) 26
theorem OpAt.cells {w : World} {b : Nat} {k : Int} {s t u : ByteArray} {n m : Int} (h : OpAt w b k s t u n m) :
    w.cell? ⟨b, 0, none⟩ = some (.int .i64 k) ∧ w.cell? ⟨b, 1, none⟩ = some (.string s) ∧ w.cell? ⟨b, 2, none⟩ = some (.string t) ∧ w.cell? ⟨b, 3, none⟩ = some (.string u) ∧ w.cell? ⟨b, 4, none⟩ = some (.int .i64 n) ∧ w.cell? ⟨b, 5, none⟩ = some (.int .i64 m) := by
  refine ⟨?_, ?_, ?_, ?_, ?_, ?_⟩ <;> simp [World.cell?, show w.heap[b]? = _ from h]
abbrev cut3 (w : World) (b : Nat) (s t u : ByteArray) : World := ((w.setCell ⟨b, 1, none⟩ (.string s)).setCell ⟨b, 2, none⟩ (.string t)).setCell ⟨b, 3, none⟩ (.string u)
theorem OpAt.cut {w : World} {b : Nat} {k : Int} {s t u : ByteArray} {n m : Int} (h : OpAt w b k s t u n m) (s' t' u' : ByteArray) : OpAt (cut3 w b s' t' u') b k s' t' u' n m := by
  have h' : w.heap[b]? = _ := h
  show (cut3 w b s' t' u').heap[b]? = _
  simp [cut3, World.setCell, Array.getElem?_modify, h']
theorem below_cut {a w : World} {b : Nat} (h : Below a.heap.size a w) (hb : a.heap.size ≤ b) (s t u : ByteArray) : Below a.heap.size a (cut3 w b s t u) := ((h.setCell hb _).setCell hb _).setCell hb _
end Go.Proofs.YtllbgjeibcaajaaDoor
