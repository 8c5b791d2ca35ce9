/- What every law's proof of this seat shares: an area, a slice of places or of calls that is handed in: what its reading says of it. -/
import Derived.Test.YtmfkeobjbcinpaaArgs7
import Derived.ProofKit
import Derived.OpenShut
import Derived.ChangeOld
import Derived.Below
import Derived.Deep.Slices
namespace Go.Proofs.Ytmfkeobjbcinpaa
open Go.ChangeShapes Go.WideShapes Go.ChangeAt Go.RowKit
open Go.Deep (open_slice)
set_option linter.unusedVariables false

theorem own : ownKnob Try.prog.godebug = none := by kernel_rfl
theorem cellsArea : Try.prog.cellsOf 37 = 4 := by kernel_rfl
theorem cellsOp : Try.prog.cellsOf 39 = 9 := by kernel_rfl
theorem cellsB : Try.prog.cellsOf 4 = 1 := by kernel_rfl
theorem addr_plain (b o j : Nat) : (⟨b, o, none⟩ : Addr).add j = ⟨b, o + j, none⟩ := by unfold Addr.add; split <;> simp_all
theorem agg_of {v : Value} {cs : List Value} (h : v.cells.toList = cs) (hl : cs.length ≠ 1) : v = .agg cs.toArray := by
  cases v
  case agg xs => simp only [Value.cells] at h; rw [← h]
  all_goals (simp only [Value.cells] at h; subst h; simp at hl)
theorem wf_of {x : Int} (h : (Lit.int .i64 x).wf = true) : wfI x := bounds_i64 h
set_option maxRecDepth 100000 in
theorem spot_cells {H : Type} {enc : TypeId × Value → H} {w : World} {base : Nat} {spare : Nat → Bool} {held : Bool} {fuel : Nat} {cs : List Value} {x : DataW H × List MemPlace} (hf : DataW.trod enc Try.prog w base spare held fuel 35 cs = some x) :
    ∃ r c, cs = [.int .i64 r, .int .i64 c] ∧ wfI r ∧ wfI c := by
  obtain ⟨xs, n, _, _, hl, hlen, hfs⟩ := DataW.trod_struct Try.underlying35 hf
  rw [cellsOfS] at hl
  obtain ⟨c0, c1, rfl⟩ : ∃ c0 c1, cs = [c0, c1] := by
    match cs, hl with
    | [c0, c1], _ => exact ⟨c0, c1, rfl⟩
  match xs, hlen with
  | [y0, y1], _ =>
    have t0 := hfs 0 _ rfl
    have t1 := hfs 1 _ rfl
    obtain ⟨r, e0, _, w0⟩ := DataW.trod_int Try.underlying3 t0
    obtain ⟨c, e1, _, w1⟩ := DataW.trod_int Try.underlying3 t1
    simp [cellsOfI] at e0
    simp [cellsOfI] at e1
    subst e0 e1
    exact ⟨r, c, rfl, wf_of w0, wf_of w1⟩
set_option maxRecDepth 100000 in
theorem area_cells {H : Type} {enc : TypeId × Value → H} {w : World} {base : Nat} {spare : Nat → Bool} {held : Bool} {fuel : Nat} {cs : List Value} {x : DataW H × List MemPlace} (hf : DataW.trod enc Try.prog w base spare held fuel 37 cs = some x) :
    ∃ t l b r, cs = [.int .i64 t, .int .i64 l, .int .i64 b, .int .i64 r] ∧ wfI t ∧ wfI l ∧ wfI b ∧ wfI r := by
  obtain ⟨xs, n, _, _, hl, hlen, hfs⟩ := DataW.trod_struct Try.underlying37 hf
  rw [cellsArea] at hl
  obtain ⟨c0, c1, c2, c3, rfl⟩ : ∃ c0 c1 c2 c3, cs = [c0, c1, c2, c3] := by
    match cs, hl with
    | [c0, c1, c2, c3], _ => exact ⟨c0, c1, c2, c3, rfl⟩
  match xs, hlen with
  | [y0, y1, y2, y3], _ =>
    have t0 := hfs 0 _ rfl
    have t1 := hfs 1 _ rfl
    have t2 := hfs 2 _ rfl
    have t3 := hfs 3 _ rfl
    obtain ⟨t, e0, _, w0⟩ := DataW.trod_int Try.underlying3 t0
    obtain ⟨l, e1, _, w1⟩ := DataW.trod_int Try.underlying3 t1
    obtain ⟨b, e2, _, w2⟩ := DataW.trod_int Try.underlying3 t2
    obtain ⟨r, e3, _, w3⟩ := DataW.trod_int Try.underlying3 t3
    simp [cellsOfI] at e0
    simp [cellsOfI] at e1
    simp [cellsOfI] at e2
    simp [cellsOfI] at e3
    subst e0 e1 e2 e3
    exact ⟨t, l, b, r, rfl, wf_of w0, wf_of w1, wf_of w2, wf_of w3⟩
theorem open_area {H : Type} {enc : TypeId × Value → H} {w : World} {base : Nat} {spare : Nat → Bool} {held : Bool} {v : Value} {d : DataW H} {ps : List MemPlace} (h : DataW.Trod enc Try.prog w base spare held 37 v d ps) :
    ∃ t l b r, v = areaV t l b r ∧ wfI t ∧ wfI l ∧ wfI b ∧ wfI r := by
  obtain ⟨fuel, hf⟩ := h
  obtain ⟨t, l, b, r, hc, hw⟩ := area_cells hf
  exact ⟨t, l, b, r, agg_of hc (by simp), hw⟩
set_option maxRecDepth 100000 in
theorem op_cells {H : Type} {enc : TypeId × Value → H} {w : World} {base : Nat} {spare : Nat → Bool} {held : Bool} {fuel : Nat} {cs : List Value} {x : DataW H × List MemPlace} (hf : DataW.trod enc Try.prog w base spare held fuel 39 cs = some x) :
    ∃ k r c x t l b ri on, cs = [.int .i64 k, .int .i64 r, .int .i64 c, .int .i64 x, .int .i64 t, .int .i64 l, .int .i64 b, .int .i64 ri, .bool on] ∧ wfI r ∧ wfI c ∧ wfI x ∧ wfI t ∧ wfI l ∧ wfI b ∧ wfI ri := by
  obtain ⟨xs, n, _, _, hl, hlen, hfs⟩ := DataW.trod_struct Try.underlying39 hf
  rw [cellsOp] at hl
  obtain ⟨c0, c1, c2, c3, c4, c5, c6, c7, c8, rfl⟩ : ∃ c0 c1 c2 c3 c4 c5 c6 c7 c8, cs = [c0, c1, c2, c3, c4, c5, c6, c7, c8] := by
    match cs, hl with
    | [c0, c1, c2, c3, c4, c5, c6, c7, c8], _ => exact ⟨c0, c1, c2, c3, c4, c5, c6, c7, c8, rfl⟩
  match xs, hlen with
  | [y0, y1, y2, y3, y4], _ =>
    have t0 := hfs 0 _ rfl
    have t1 := hfs 1 _ rfl
    have t2 := hfs 2 _ rfl
    have t3 := hfs 3 _ rfl
    have t4 := hfs 4 _ rfl
    obtain ⟨k, e0, _, w0⟩ := DataW.trod_int Try.underlying3 t0
    obtain ⟨r, c, e1, w1, w1'⟩ := spot_cells t1
    obtain ⟨x, e2, _, w2⟩ := DataW.trod_int Try.underlying3 t2
    obtain ⟨t, l, b, ri, e3, w3⟩ := area_cells t3
    obtain ⟨on, e4, _⟩ := DataW.trod_bool Try.underlying4 t4
    simp [cellsOfI] at e0
    simp [cellsOfS] at e1
    simp [cellsOfI] at e2
    simp [cellsArea] at e3
    simp [cellsB] at e4
    obtain ⟨rfl, rfl⟩ := e1
    obtain ⟨rfl, rfl, rfl, rfl⟩ := e3
    subst e0 e2 e4
    exact ⟨k, r, c, x, t, l, b, ri, on, rfl, w1, w1', wf_of w2, w3⟩
set_option maxRecDepth 100000 in
theorem places_of {H : Type} {enc : TypeId × Value → H} {W : World} {base : Nat} {spare : Nat → Bool} {held : Bool} {fuel : Nat} {a0 : Option Addr} {len cap : Nat} {x : DataW H × List MemPlace}
    (hf : DataW.trod enc Try.prog W base spare held fuel 28 (Value.cells (.slice a0 len cap)).toList = some x) : PlacesIn W a0 len cap := by
  rcases open_slice Try.underlying28 hf with ⟨hcs, _⟩ | ⟨a, len', cap', m, n, D, Pl, hcs, _, hl, hm, hmm, _, hel⟩
  · simp [Value.cells] at hcs
    obtain ⟨rfl, rfl, rfl⟩ := hcs
    exact ⟨Nat.le_refl _, Nat.zero_le _, .inl rfl⟩
  · simp [Value.cells] at hcs
    obtain ⟨rfl, rfl, rfl⟩ := hcs
    refine ⟨hl, hm, ?_⟩
    by_cases z : len = 0
    · exact .inl z
    have hlm : len ≤ m := by rw [hmm]; split <;> omega
    obtain ⟨b, off, spot⟩ := a
    have hspot : spot = none := by
      obtain ⟨cs', hc0, ht0⟩ := hel 0 (by omega)
      rw [cellsOfS] at hc0
      obtain ⟨_, hl3, hcell⟩ := World.cells?_some hc0
      obtain ⟨r, c, rfl, _⟩ := spot_cells ht0
      have r0 : W.cell? (((⟨b, off, spot⟩ : Addr).add (0 * 2)).add 0) = some (.int .i64 r) := hcell 0 (by omega)
      simpa [Addr.add] using World.cell?_spot r0
    subst hspot
    refine .inr ⟨b, off, rfl, fun i hi => ?_⟩
    obtain ⟨cs', hc0, ht0⟩ := hel i (by omega)
    rw [cellsOfS] at hc0
    obtain ⟨_, hl3, hcell⟩ := World.cells?_some hc0
    obtain ⟨r, c, rfl, b1, b2⟩ := spot_cells ht0
    have r0 := hcell 0 (by omega)
    have r1 := hcell 1 (by omega)
    simp only [addr_plain] at r0 r1
    exact ⟨r, c, ⟨r0, r1⟩, b1, b2⟩
set_option maxRecDepth 100000 in
theorem ops_of {H : Type} {enc : TypeId × Value → H} {W : World} {base : Nat} {spare : Nat → Bool} {held : Bool} {fuel : Nat} {a0 : Option Addr} {len cap : Nat} {x : DataW H × List MemPlace}
    (hf : DataW.trod enc Try.prog W base spare held fuel 22 (Value.cells (.slice a0 len cap)).toList = some x) : OpsIn W a0 len := by
  rcases open_slice Try.underlying22 hf with ⟨hcs, _⟩ | ⟨a, len', cap', m, n, D, Pl, hcs, _, hl, hm, hmm, _, hel⟩
  · simp [Value.cells] at hcs
    exact .inl hcs.2.1
  · simp [Value.cells] at hcs
    obtain ⟨rfl, rfl, rfl⟩ := hcs
    by_cases z : len = 0
    · exact .inl z
    have hlm : len ≤ m := by rw [hmm]; split <;> omega
    obtain ⟨b, off, spot⟩ := a
    have hspot : spot = none := by
      obtain ⟨cs', hc0, ht0⟩ := hel 0 (by omega)
      rw [cellsOp] at hc0
      obtain ⟨_, hl3, hcell⟩ := World.cells?_some hc0
      obtain ⟨k, r, c, x, t, l, bo, ri, on, rfl, _⟩ := op_cells ht0
      have r0 : W.cell? (((⟨b, off, spot⟩ : Addr).add (0 * 9)).add 0) = some (.int .i64 k) := hcell 0 (by omega)
      simpa [Addr.add] using World.cell?_spot r0
    subst hspot
    refine .inr ⟨b, off, rfl, by omega, fun i hi => ?_⟩
    obtain ⟨cs', hc0, ht0⟩ := hel i (by omega)
    rw [cellsOp] at hc0
    obtain ⟨_, hl3, hcell⟩ := World.cells?_some hc0
    obtain ⟨k, r, c, x, t, l, bo, ri, on, rfl, hw⟩ := op_cells ht0
    have r0 := hcell 0 (by omega)
    have r1 := hcell 1 (by omega)
    have r2 := hcell 2 (by omega)
    have r3 := hcell 3 (by omega)
    have r4 := hcell 4 (by omega)
    have r5 := hcell 5 (by omega)
    have r6 := hcell 6 (by omega)
    have r7 := hcell 7 (by omega)
    have r8 := hcell 8 (by omega)
    simp only [addr_plain] at r0 r1 r2 r3 r4 r5 r6 r7 r8
    exact ⟨k, r, c, x, t, l, bo, ri, on, ⟨r0, r1, r2, r3, r4, r5, r6, r7, r8⟩, hw⟩
end Go.Proofs.Ytmfkeobjbcinpaa
