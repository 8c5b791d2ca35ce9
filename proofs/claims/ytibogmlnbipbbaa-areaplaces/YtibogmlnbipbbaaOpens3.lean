/- What every law's proof of this seat shares: a place or an area that is handed in: what its reading says of the value. -/
import Derived.Test.YtibogmlnbipbbaaKit3
import Derived.ProofKit
import Derived.OpenShut
import Derived.ChangeOld
import Derived.Below
namespace Go.Proofs.Ytibogmlnbipbbaa
open Go.ChangeShapes Go.WideShapes Go.ChangeAt Go.RowKit
set_option linter.unusedVariables false

theorem own : ownKnob Try.prog.godebug = none := by kernel_rfl
theorem laidOut : laidOutB Try.prog = true := by kernel_rfl
theorem cellsSpot : Try.prog.cellsOf 28 = 2 := by kernel_rfl
theorem cellsArea : Try.prog.cellsOf 26 = 4 := by kernel_rfl
theorem cellsI : Try.prog.cellsOf 3 = 1 := by kernel_rfl
theorem agg_of {v : Value} {cs : List Value} (h : v.cells.toList = cs) (hl : cs.length ≠ 1) : v = .agg cs.toArray := by
  cases v
  case agg xs => simp only [Value.cells] at h; rw [← h]
  all_goals (simp only [Value.cells] at h; subst h; simp at hl)
theorem spot_cells {H : Type} {enc : TypeId × Value → H} {w : World} {base : Nat} {spare : Nat → Bool} {held : Bool} {fuel : Nat} {cs : List Value} {x : DataW H × List MemPlace} (hf : DataW.trod enc Try.prog w base spare held fuel 28 cs = some x) :
    ∃ r c, cs = [.int .i64 r, .int .i64 c] := by
  obtain ⟨xs, n, _, _, hl, hlen, hfs⟩ := DataW.trod_struct Try.underlying28 hf
  rw [cellsSpot] at hl
  obtain ⟨c0, c1, rfl⟩ : ∃ c0 c1, cs = [c0, c1] := by
    match cs, hl with
    | [c0, c1], _ => exact ⟨c0, c1, rfl⟩
  match xs, hlen with
  | [y0, y1], _ =>
    have t0 := hfs 0 _ rfl
    have t1 := hfs 1 _ rfl
    obtain ⟨r, e0, _, _⟩ := DataW.trod_int Try.underlying3 t0
    obtain ⟨c, e1, _, _⟩ := DataW.trod_int Try.underlying3 t1
    simp [cellsI] at e0
    simp [cellsI] at e1
    subst e0 e1
    exact ⟨r, c, rfl⟩
theorem area_cells {H : Type} {enc : TypeId × Value → H} {w : World} {base : Nat} {spare : Nat → Bool} {held : Bool} {fuel : Nat} {cs : List Value} {x : DataW H × List MemPlace} (hf : DataW.trod enc Try.prog w base spare held fuel 26 cs = some x) :
    ∃ t l b r, cs = [.int .i64 t, .int .i64 l, .int .i64 b, .int .i64 r] := by
  obtain ⟨xs, n, _, _, hl, hlen, hfs⟩ := DataW.trod_struct Try.underlying26 hf
  rw [cellsArea] at hl
  obtain ⟨c0, c1, c2, c3, rfl⟩ : ∃ c0 c1 c2 c3, cs = [c0, c1, c2, c3] := by
    match cs, hl with
    | [c0, c1, c2, c3], _ => exact ⟨c0, c1, c2, c3, rfl⟩
  match xs, hlen with
  | [y0, y1, y2, y3], _ =>
    have t0 := hfs 0 _ rfl
    have t1 := hfs 1 _ rfl
    have t2 := hfs 2 _ rfl
    have t3 := hfs 3 _ rfl
    obtain ⟨t, e0, _, _⟩ := DataW.trod_int Try.underlying3 t0
    obtain ⟨l, e1, _, _⟩ := DataW.trod_int Try.underlying3 t1
    obtain ⟨b, e2, _, _⟩ := DataW.trod_int Try.underlying3 t2
    obtain ⟨r, e3, _, _⟩ := DataW.trod_int Try.underlying3 t3
    simp [cellsI] at e0
    simp [cellsI] at e1
    simp [cellsI] at e2
    simp [cellsI] at e3
    subst e0 e1 e2 e3
    exact ⟨t, l, b, r, rfl⟩
theorem open_spot {H : Type} {enc : TypeId × Value → H} {w : World} {base : Nat} {spare : Nat → Bool} {held : Bool} {v : Value} {d : DataW H} {ps : List MemPlace} (h : DataW.Trod enc Try.prog w base spare held 28 v d ps) :
    ∃ r c, v = spotV r c := by
  obtain ⟨fuel, hf⟩ := h
  obtain ⟨r, c, hc⟩ := spot_cells hf
  exact ⟨r, c, agg_of hc (by simp)⟩
theorem open_area {H : Type} {enc : TypeId × Value → H} {w : World} {base : Nat} {spare : Nat → Bool} {held : Bool} {v : Value} {d : DataW H} {ps : List MemPlace} (h : DataW.Trod enc Try.prog w base spare held 26 v d ps) :
    ∃ t l b r, v = areaV t l b r := by
  obtain ⟨fuel, hf⟩ := h
  obtain ⟨t, l, b, r, hc⟩ := area_cells hf
  exact ⟨t, l, b, r, agg_of hc (by simp)⟩
end Go.Proofs.Ytibogmlnbipbbaa
