/- A place or a reference that is handed in: what its reading says of the value. -/
import Derived.Test.YtjhfjpofmkofhaaDoorFrame2
namespace Go.Proofs.YtjhfjpofmkofhaaDoor
open Go.ChangeShapes Go.WideShapes Go.ChangeAt Go.RowKit
set_option linter.unusedVariables false

theorem cellsSpot : Tryd.prog.cellsOf 26 = 2 := by kernel_rfl
theorem cellsRef : Tryd.prog.cellsOf 28 = 4 := by kernel_rfl
theorem cellsI : Tryd.prog.cellsOf 3 = 1 := by kernel_rfl
theorem cellsB : Tryd.prog.cellsOf 4 = 1 := by kernel_rfl
theorem agg_of {v : Value} {cs : List Value} (h : v.cells.toList = cs) (hl : cs.length ≠ 1) : v = .agg cs.toArray := by
  cases v
  case agg xs => simp only [Value.cells] at h; rw [← h]
  all_goals (simp only [Value.cells] at h; subst h; simp at hl)
theorem open_spot {H : Type} {enc : TypeId × Value → H} {w : World} {base : Nat} {spare : Nat → Bool} {held : Bool} {v : Value} {d : DataW H} {ps : List MemPlace} (h : DataW.Trod enc Tryd.prog w base spare held 26 v d ps) :
    ∃ r c, v = spotV r c := by
  obtain ⟨fuel, hf⟩ := h
  obtain ⟨xs, n, _, _, hl, hlen, hfs⟩ := DataW.trod_struct Tryd.underlying26 hf
  rw [cellsSpot] at hl
  obtain ⟨c0, c1, hc⟩ : ∃ c0 c1, v.cells.toList = [c0, c1] := by
    match h : v.cells.toList, hl with
    | [c0, c1], _ => exact ⟨c0, c1, rfl⟩
  rw [hc] at hfs
  match xs, hlen with
  | [y0, y1], _ =>
    have t0 := hfs 0 _ rfl
    have t1 := hfs 1 _ rfl
    obtain ⟨r, e0, _, _⟩ := DataW.trod_int Tryd.underlying3 t0
    obtain ⟨c, e1, _, _⟩ := DataW.trod_int Tryd.underlying3 t1
    simp [cellsI] at e0
    simp [cellsI] at e1
    subst e0 e1
    exact ⟨r, c, agg_of hc (by simp)⟩
theorem open_ref {H : Type} {enc : TypeId × Value → H} {w : World} {base : Nat} {spare : Nat → Bool} {held : Bool} {v : Value} {d : DataW H} {ps : List MemPlace} (h : DataW.Trod enc Tryd.prog w base spare held 28 v d ps) :
    ∃ r c p q, v = refV r c p q := by
  obtain ⟨fuel, hf⟩ := h
  obtain ⟨xs, n, _, _, hl, hlen, hfs⟩ := DataW.trod_struct Tryd.underlying28 hf
  rw [cellsRef] at hl
  obtain ⟨c0, c1, c2, c3, hc⟩ : ∃ c0 c1 c2 c3, v.cells.toList = [c0, c1, c2, c3] := by
    match h : v.cells.toList, hl with
    | [c0, c1, c2, c3], _ => exact ⟨c0, c1, c2, c3, rfl⟩
  rw [hc] at hfs
  match xs, hlen with
  | [y0, y1, y2, y3], _ =>
    have t0 := hfs 0 _ rfl
    have t1 := hfs 1 _ rfl
    have t2 := hfs 2 _ rfl
    have t3 := hfs 3 _ rfl
    obtain ⟨r, e0, _, _⟩ := DataW.trod_int Tryd.underlying3 t0
    obtain ⟨c, e1, _, _⟩ := DataW.trod_int Tryd.underlying3 t1
    obtain ⟨p, e2, _⟩ := DataW.trod_bool Tryd.underlying4 t2
    obtain ⟨q, e3, _⟩ := DataW.trod_bool Tryd.underlying4 t3
    simp [cellsI] at e0
    simp [cellsI] at e1
    simp [cellsB] at e2
    simp [cellsB] at e3
    subst e0 e1 e2 e3
    exact ⟨r, c, p, q, agg_of hc (by simp)⟩
end Go.Proofs.YtjhfjpofmkofhaaDoor
