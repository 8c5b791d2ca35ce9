/- A reference that is handed in; bounds of a number that is. -/
import Derived.Test.YtmgmlpbecodnfaaOpens9
namespace Go.Proofs.Ytmgmlpbecodnfaa
open Go.ChangeShapes Go.WideShapes Go.ChangeAt Go.RowKit
set_option linter.unusedVariables false

theorem open_refT {H : Type} {enc : TypeId × Value → H} {w : World} {base : Nat} {spare : Nat → Bool} {held : Bool} {v : Value} {d : DataW H} {ps : List MemPlace} (h : DataW.Trod enc Try.prog w base spare held 26 v d ps) : ∃ r : Rf, v = .agg #[.int .i64 r.row, .int .i64 r.col, .bool r.pr, .bool r.pc] := by
  obtain ⟨fuel, hf⟩ := h
  obtain ⟨r, hr⟩ := ref_cells hf
  exact ⟨r, agg_of hr (by simp)⟩
end Go.Proofs.Ytmgmlpbecodnfaa
