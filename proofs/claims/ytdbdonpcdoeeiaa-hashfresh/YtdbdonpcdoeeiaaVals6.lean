/- A slice of values or of numbers that is handed in: its cells, how they are carried over calls. -/
import Derived.Test.YtdbdonpcdoeeiaaBegun6
namespace Go.Proofs.Ytdbdonpcdoeeiaa
open Go.RowKit Go.Sort
set_option linter.unusedVariables false

/-- The three cells of the value at place j. -/
def ValAt (w : World) (b off j : Nat) (k i : Int) (t : ByteArray) : Prop := w.cell? ⟨b, off + j * 3, none⟩ = some (.int .i64 k) ∧ w.cell? ⟨b, off + j * 3 + 1, none⟩ = some (.int .i64 i) ∧ w.cell? ⟨b, off + j * 3 + 2, none⟩ = some (.string t)
theorem ValAt.keep {w w' : World} {b off j : Nat} {k i : Int} {t : ByteArray} (h : ValAt w b off j k i t) (hb : Below w.heap.size w w') : ValAt w' b off j k i t := ⟨keep1 hb h.1, keep1 hb h.2.1, keep1 hb h.2.2⟩
theorem ValAt.lt {w : World} {b off j : Nat} {k i : Int} {t : ByteArray} (h : ValAt w b off j k i t) : b < w.heap.size := block_lt_of_cell h.1
/-- Some value, its number of 64 bits. -/
def AnyAt (w : World) (b off j : Nat) : Prop := ∃ k i t, ValAt w b off j k i t ∧ -9223372036854775808 ≤ i ∧ i ≤ 9223372036854775807
/-- Some number. -/
def IntAt (w : World) (b off j : Nat) : Prop := ∃ n, w.cell? ⟨b, off + j, none⟩ = some (.int .i64 n)
/-- A slice of values, of numbers: empty, or with its cells. -/
def ValsIn (w : World) (a : Option Addr) (len : Nat) : Prop := len = 0 ∨ ∃ b off, a = some ⟨b, off, none⟩ ∧ len ≤ maxLen ∧ ∀ j, j < len → AnyAt w b off j
def IntsIn (w : World) (a : Option Addr) (len : Nat) : Prop := len = 0 ∨ ∃ b off, a = some ⟨b, off, none⟩ ∧ len ≤ maxLen ∧ ∀ j, j < len → IntAt w b off j
end Go.Proofs.Ytdbdonpcdoeeiaa
