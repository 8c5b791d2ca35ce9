/- Slices of places, and of calls, that are handed in: empty, or with their cells. -/
import Derived.Test.YtmfkeobjbcinpaaTab7
namespace Go.Proofs.Ytmfkeobjbcinpaa
open Go.RowKit
set_option linter.unusedVariables false

/-- The two cells of the place at j. -/
def PlAt (w : World) (b off j : Nat) (r c : Int) : Prop := w.cell? ⟨b, off + j * 2, none⟩ = some (.int .i64 r) ∧ w.cell? ⟨b, off + j * 2 + 1, none⟩ = some (.int .i64 c)
theorem PlAt.keep {w w' : World} {b off j : Nat} {r c : Int} (h : PlAt w b off j r c) (hb : Below w.heap.size w w') : PlAt w' b off j r c := ⟨keep1 hb h.1, keep1 hb h.2⟩
theorem PlAt.lt {w : World} {b off j : Nat} {r c : Int} (h : PlAt w b off j r c) : b < w.heap.size := block_lt_of_cell h.1
theorem PlAt.same {w w' : World} {b off j : Nat} {r c : Int} (h : PlAt w b off j r c) (hb : w'.heap[b]? = w.heap[b]?) : PlAt w' b off j r c :=
  ⟨(World.cell?_of_block (a := ⟨b, off + j * 2, none⟩) hb).trans h.1, (World.cell?_of_block (a := ⟨b, off + j * 2 + 1, none⟩) hb).trans h.2⟩
/-- A slice of places that was handed in. -/
def PlacesIn (w : World) (a : Option Addr) (len cap : Nat) : Prop := len ≤ cap ∧ cap ≤ maxLen ∧ (len = 0 ∨ ∃ b off, a = some ⟨b, off, none⟩ ∧ ∀ j, j < len → ∃ r c, PlAt w b off j r c ∧ wfI r ∧ wfI c)
/-- The nine cells of the call at j. -/
structure OpAt (w : World) (b off j : Nat) (k r c x t l bo ri : Int) (on : Bool) : Prop where
  c0 : w.cell? ⟨b, off + j * 9, none⟩ = some (.int .i64 k)
  c1 : w.cell? ⟨b, off + j * 9 + 1, none⟩ = some (.int .i64 r)
  c2 : w.cell? ⟨b, off + j * 9 + 2, none⟩ = some (.int .i64 c)
  c3 : w.cell? ⟨b, off + j * 9 + 3, none⟩ = some (.int .i64 x)
  c4 : w.cell? ⟨b, off + j * 9 + 4, none⟩ = some (.int .i64 t)
  c5 : w.cell? ⟨b, off + j * 9 + 5, none⟩ = some (.int .i64 l)
  c6 : w.cell? ⟨b, off + j * 9 + 6, none⟩ = some (.int .i64 bo)
  c7 : w.cell? ⟨b, off + j * 9 + 7, none⟩ = some (.int .i64 ri)
  c8 : w.cell? ⟨b, off + j * 9 + 8, none⟩ = some (.bool on)
theorem OpAt.keep {w w' : World} {b off j : Nat} {k r c x t l bo ri : Int} {on : Bool} (h : OpAt w b off j k r c x t l bo ri on) (hb : Below w.heap.size w w') : OpAt w' b off j k r c x t l bo ri on :=
  ⟨keep1 hb h.c0, keep1 hb h.c1, keep1 hb h.c2, keep1 hb h.c3, keep1 hb h.c4, keep1 hb h.c5, keep1 hb h.c6, keep1 hb h.c7, keep1 hb h.c8⟩
def OpsIn (w : World) (a : Option Addr) (len : Nat) : Prop := len = 0 ∨ ∃ b off, a = some ⟨b, off, none⟩ ∧ len ≤ maxLen ∧ ∀ j, j < len → ∃ k r c x t l bo ri on, OpAt w b off j k r c x t l bo ri on ∧ wfI r ∧ wfI c ∧ wfI x ∧ wfI t ∧ wfI l ∧ wfI bo ∧ wfI ri
end Go.Proofs.Ytmfkeobjbcinpaa
