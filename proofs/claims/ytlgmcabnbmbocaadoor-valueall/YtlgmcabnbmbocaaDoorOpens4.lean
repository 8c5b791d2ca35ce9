/- What every law's proof of this seat shares: a value that is handed in: what its reading says of it. -/
import Derived.Test.YtlgmcabnbmbocaaDoorFrame
import Derived.Test.YtlgmcabnbmbocaaDoorKit4
import Derived.ProofKit
import Derived.OpenShut
import Derived.ChangeOld
import Derived.Below
namespace Go.Proofs.YtlgmcabnbmbocaaDoor
open Go.ChangeShapes Go.WideShapes Go.ChangeAt Go.RowKit
set_option linter.unusedVariables false

theorem cellsValue : Tryd.prog.cellsOf 26 = 3 := by kernel_rfl
theorem cellsI : Tryd.prog.cellsOf 3 = 1 := by kernel_rfl
theorem cellsL : Tryd.prog.cellsOf 2 = 1 := by kernel_rfl
theorem cellsS : Tryd.prog.cellsOf 9 = 1 := by kernel_rfl
theorem agg_of {v : Value} {cs : List Value} (h : v.cells.toList = cs) (hl : cs.length ≠ 1) : v = .agg cs.toArray := by
  cases v
  case agg xs => simp only [Value.cells] at h; rw [← h]
  all_goals (simp only [Value.cells] at h; subst h; simp at hl)
theorem value_cells {H : Type} {enc : TypeId × Value → H} {w : World} {base : Nat} {spare : Nat → Bool} {held : Bool} {fuel : Nat} {cs : List Value} {x : DataW H × List MemPlace} (hf : DataW.trod enc Tryd.prog w base spare held fuel 26 cs = some x) :
    ∃ k i t, cs = [.int .i64 k, .int .i64 i, .string t] ∧ -9223372036854775808 ≤ i ∧ i ≤ 9223372036854775807 ∧ t.size ≤ maxLen := by
  obtain ⟨xs, n, _, _, hl, hlen, hfs⟩ := DataW.trod_struct Tryd.underlying26 hf
  rw [cellsValue] at hl
  obtain ⟨c0, c1, c2, rfl⟩ : ∃ c0 c1 c2, cs = [c0, c1, c2] := by
    match cs, hl with
    | [c0, c1, c2], _ => exact ⟨c0, c1, c2, rfl⟩
  match xs, hlen with
  | [y0, y1, y2], _ =>
    have t0 := hfs 0 _ rfl
    have t1 := hfs 1 _ rfl
    have t2 := hfs 2 _ rfl
    obtain ⟨k, e0, _, _⟩ := DataW.trod_int Tryd.underlying3 t0
    obtain ⟨i, e1, _, w1⟩ := DataW.trod_int Tryd.underlying2 t1
    obtain ⟨t, e2, _, w2⟩ := DataW.trod_string Tryd.underlying9 t2
    simp [cellsI] at e0
    simp [cellsL] at e1
    simp [cellsS] at e2
    subst e0 e1 e2
    exact ⟨k, i, t, rfl, (wf_i64 w1).1, (wf_i64 w1).2, w2⟩
theorem open_val {H : Type} {enc : TypeId × Value → H} {w : World} {base : Nat} {spare : Nat → Bool} {held : Bool} {v : Value} {d : DataW H} {ps : List MemPlace} (h : DataW.Trod enc Tryd.prog w base spare held 26 v d ps) :
    ∃ k i t, v = vV k i t ∧ -9223372036854775808 ≤ i ∧ i ≤ 9223372036854775807 ∧ t.size ≤ maxLen := by
  obtain ⟨fuel, hf⟩ := h
  obtain ⟨k, i, t, hc, h1, h2, h3⟩ := value_cells hf
  exact ⟨k, i, t, agg_of hc (by simp), h1, h2, h3⟩
end Go.Proofs.YtlgmcabnbmbocaaDoor
