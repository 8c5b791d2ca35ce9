/- A slice of arguments that is handed in: what its reading says of it; FoldOrder for every such slice. -/
import Derived.Test.YtchphbclaapfhaaGreatDoorFoldOrder
import Derived.Test.YtchphbclaapfhaaGreatDoorBgnJ
import Derived.ProofKit
import Derived.OpenShut
import Derived.ChangeOld
import Derived.Deep.Slices
namespace Go.Proofs.YtchphbclaapfhaaGreatDoor
open Go.ChangeShapes Go.WideShapes Go.ChangeAt Go.RowKit
open Go.Deep (open_slice)
set_option linter.unusedVariables false

theorem cellsVa : Tryz.prog.cellsOf 28 = 3 := by kernel_rfl
theorem cellsAr : Tryz.prog.cellsOf 26 = 4 := by kernel_rfl
theorem cellsAg : Tryz.prog.cellsOf 30 = 8 := by kernel_rfl
theorem cellsIn : Tryz.prog.cellsOf 3 = 1 := by kernel_rfl
theorem cellsLo : Tryz.prog.cellsOf 2 = 1 := by kernel_rfl
theorem cellsSt : Tryz.prog.cellsOf 9 = 1 := by kernel_rfl
theorem cellsBo : Tryz.prog.cellsOf 4 = 1 := by kernel_rfl
theorem addr_plain (b o j : Nat) : (⟨b, o, none⟩ : Addr).add j = ⟨b, o + j, none⟩ := by unfold Addr.add; split <;> simp_all
set_option maxRecDepth 100000 in
theorem value_cells15 {H : Type} {enc : TypeId × Value → H} {w : World} {base : Nat} {spare : Nat → Bool} {held : Bool} {fuel : Nat} {cs : List Value} {x : DataW H × List MemPlace} (hf : DataW.trod enc Tryz.prog w base spare held fuel 28 cs = some x) :
    ∃ k i t, cs = [.int .i64 k, .int .i64 i, .string t] ∧ -9223372036854775808 ≤ i ∧ i ≤ 9223372036854775807 := by
  obtain ⟨xs, n, _, _, hl, hlen, hfs⟩ := DataW.trod_struct Tryz.underlying28 hf
  rw [cellsVa] at hl
  obtain ⟨c0, c1, c2, rfl⟩ : ∃ c0 c1 c2, cs = [c0, c1, c2] := by
    match cs, hl with
    | [c0, c1, c2], _ => exact ⟨c0, c1, c2, rfl⟩
  match xs, hlen with
  | [y0, y1, y2], _ =>
    have t0 := hfs 0 _ rfl
    have t1 := hfs 1 _ rfl
    have t2 := hfs 2 _ rfl
    obtain ⟨k, e0, _, _⟩ := DataW.trod_int Tryz.underlying3 t0
    obtain ⟨i, e1, _, w1⟩ := DataW.trod_int Tryz.underlying2 t1
    obtain ⟨t, e2, _, w2⟩ := DataW.trod_string Tryz.underlying9 t2
    simp [cellsIn] at e0
    simp [cellsLo] at e1
    simp [cellsSt] at e2
    subst e0 e1 e2
    exact ⟨k, i, t, rfl, (bounds_i64 w1).1, (bounds_i64 w1).2⟩
set_option maxRecDepth 100000 in
theorem area_cells15 {H : Type} {enc : TypeId × Value → H} {w : World} {base : Nat} {spare : Nat → Bool} {held : Bool} {fuel : Nat} {cs : List Value} {x : DataW H × List MemPlace} (hf : DataW.trod enc Tryz.prog w base spare held fuel 26 cs = some x) :
    ∃ t l b r, cs = [.int .i64 t, .int .i64 l, .int .i64 b, .int .i64 r] := by
  obtain ⟨xs, n, _, _, hl, hlen, hfs⟩ := DataW.trod_struct Tryz.underlying26 hf
  rw [cellsAr] at hl
  obtain ⟨c0, c1, c2, c3, rfl⟩ : ∃ c0 c1 c2 c3, cs = [c0, c1, c2, c3] := by
    match cs, hl with
    | [c0, c1, c2, c3], _ => exact ⟨c0, c1, c2, c3, rfl⟩
  match xs, hlen with
  | [y0, y1, y2, y3], _ =>
    have t0 := hfs 0 _ rfl
    have t1 := hfs 1 _ rfl
    have t2 := hfs 2 _ rfl
    have t3 := hfs 3 _ rfl
    obtain ⟨t, e0, _, w0⟩ := DataW.trod_int Tryz.underlying3 t0
    obtain ⟨l, e1, _, w1⟩ := DataW.trod_int Tryz.underlying3 t1
    obtain ⟨b, e2, _, w2⟩ := DataW.trod_int Tryz.underlying3 t2
    obtain ⟨r, e3, _, w3⟩ := DataW.trod_int Tryz.underlying3 t3
    simp [cellsIn] at e0
    simp [cellsIn] at e1
    simp [cellsIn] at e2
    simp [cellsIn] at e3
    subst e0 e1 e2 e3
    exact ⟨t, l, b, r, rfl⟩
set_option maxRecDepth 100000 in
theorem arg_cells {H : Type} {enc : TypeId × Value → H} {w : World} {base : Nat} {spare : Nat → Bool} {held : Bool} {fuel : Nat} {cs : List Value} {x : DataW H × List MemPlace} (hf : DataW.trod enc Tryz.prog w base spare held fuel 30 cs = some x) :
    ∃ a : Ag, cs = agL a ∧ -9223372036854775808 ≤ a.v.i ∧ a.v.i ≤ 9223372036854775807 := by
  obtain ⟨xs, n, _, _, hl, hlen, hfs⟩ := DataW.trod_struct Tryz.underlying30 hf
  rw [cellsAg] at hl
  obtain ⟨c0, c1, c2, c3, c4, c5, c6, c7, rfl⟩ : ∃ c0 c1 c2 c3 c4 c5 c6 c7, cs = [c0, c1, c2, c3, c4, c5, c6, c7] := by
    match cs, hl with
    | [c0, c1, c2, c3, c4, c5, c6, c7], _ => exact ⟨c0, c1, c2, c3, c4, c5, c6, c7, rfl⟩
  match xs, hlen with
  | [y0, y1, y2], _ =>
    have t0 := hfs 0 _ rfl
    have t1 := hfs 1 _ rfl
    have t2 := hfs 2 _ rfl
    obtain ⟨is, e0, _⟩ := DataW.trod_bool Tryz.underlying4 t0
    obtain ⟨t, l, b, r, e1⟩ := area_cells15 t1
    obtain ⟨k, i, tx, e2, w1, w2⟩ := value_cells15 t2
    simp [cellsBo] at e0
    simp [cellsAr] at e1
    simp [cellsVa] at e2
    obtain ⟨rfl, rfl, rfl, rfl⟩ := e1
    obtain ⟨rfl, rfl, rfl⟩ := e2
    subst e0
    exact ⟨⟨is, t, l, b, r, ⟨k, i, tx⟩⟩, rfl, w1, w2⟩
set_option maxRecDepth 100000 in
theorem args_of {H : Type} {enc : TypeId × Value → H} {W : World} {base : Nat} {spare : Nat → Bool} {held : Bool} {fuel : Nat} {a0 : Option Addr} {len cap : Nat} {x : DataW H × List MemPlace}
    (hf : DataW.trod enc Tryz.prog W base spare held fuel 37 (Value.cells (.slice a0 len cap)).toList = some x) : len ≤ cap ∧ ∃ xs : List Ag, xs.length = len ∧ (∀ x ∈ xs, -9223372036854775808 ≤ x.v.i ∧ x.v.i ≤ 9223372036854775807) ∧ ArgsAt W (· < W.heap.size) a0 xs := by
  rcases open_slice Tryz.underlying37 hf with ⟨hcs, _⟩ | ⟨a, len', cap', m, n, D, Pl, hcs, _, hl, hm, hmm, _, hel⟩
  · simp [Value.cells] at hcs
    obtain ⟨rfl, rfl, rfl⟩ := hcs
    exact ⟨Nat.le_refl _, [], rfl, (fun x hx => by cases hx), .inl rfl⟩
  · simp [Value.cells] at hcs
    obtain ⟨rfl, rfl, rfl⟩ := hcs
    refine ⟨hl, ?_⟩
    by_cases z : len = 0
    · subst z; exact ⟨[], rfl, (fun x hx => by cases hx), .inl rfl⟩
    have hlm : len ≤ m := by rw [hmm]; split <;> omega
    obtain ⟨b, off, spot⟩ := a
    have hspot : spot = none := by
      obtain ⟨cs', hc0, ht0⟩ := hel 0 (by omega)
      rw [cellsAg] at hc0
      obtain ⟨_, hl3, hcell⟩ := World.cells?_some hc0
      obtain ⟨ag, rfl, _⟩ := arg_cells ht0
      have r0 : W.cell? (((⟨b, off, spot⟩ : Addr).add (0 * 8)).add 0) = some (.bool ag.is) := hcell 0 (by omega)
      simpa [Addr.add] using World.cell?_spot r0
    subst hspot
    have one : ∀ i, i < len → ∃ ag : Ag, W.rangeAt b (off + i * 8) (agL ag) ∧ -9223372036854775808 ≤ ag.v.i ∧ ag.v.i ≤ 9223372036854775807 := fun i hi => by
      obtain ⟨cs', hc0, ht0⟩ := hel i (by omega)
      rw [cellsAg] at hc0
      obtain ⟨_, hl3, hcell⟩ := World.cells?_some hc0
      obtain ⟨ag, rfl, b1, b2⟩ := arg_cells ht0
      refine ⟨ag, fun jj u hu => ?_, b1, b2⟩
      have hj : jj < 8 := by have := (List.getElem?_eq_some_iff.1 hu).1; simpa using this
      have r0 := hcell jj hj
      simp only [addr_plain] at r0
      rw [r0, ← hu]
    obtain ⟨f, hf'⟩ : ∃ f : Nat → Ag, ∀ i, i < len → W.rangeAt b (off + i * 8) (agL (f i)) ∧ -9223372036854775808 ≤ (f i).v.i ∧ (f i).v.i ≤ 9223372036854775807 :=
      ⟨fun i => if h : i < len then (one i h).choose else ⟨false, 0, 0, 0, 0, ⟨0, 0, no⟩⟩, fun i h => by simp only [h, dite_true]; exact (one i h).choose_spec⟩
    refine ⟨(List.range len).map f, by simp, fun y hy => ?_, .inr ⟨b, off, rfl, ?_, fun j y hy => ?_⟩⟩
    · obtain ⟨i, hi, rfl⟩ := List.mem_map.1 hy
      exact (hf' i (by simpa using hi)).2
    · have := (hf' 0 (by omega)).1 0 _ rfl
      exact block_lt_of_cell this
    · have hj : j < len := by have := (List.getElem?_eq_some_iff.1 hy).1; simpa using this
      rw [List.getElem?_map, List.getElem?_range hj] at hy
      obtain rfl : f j = y := by simpa using hy
      exact (hf' j hj).1
theorem ArgsAt.takeA {w : World} {q : Nat → Prop} {a : Option Addr} {xs : List Ag} (h : ArgsAt w q a xs) (n : Nat) : ArgsAt w q a (xs.take n) := by
  rcases h with h | ⟨b, o, h, hb, g⟩
  · left; rw [h]; simp
  · exact .inr ⟨b, o, h, hb, fun j x hx => g j x (by rw [List.getElem?_take] at hx; split at hx; exact hx; cases hx)⟩
theorem foldOrder_walk (a : Option Addr) (len cap : Nat) (W : World) (h : len ≤ cap ∧ ∃ xs : List Ag, xs.length = len ∧ (∀ x ∈ xs, -9223372036854775808 ≤ x.v.i ∧ x.v.i ≤ 9223372036854775807) ∧ ArgsAt W (· < W.heap.size) a xs) : Calls Tryz.prog 7 #[.slice a len cap] W fun e w' => e = .returned (.bool true) ∧ Below W.heap.size W w' := by
  obtain ⟨hc, xs, rfl, hb, hi⟩ := h
  by_cases h3 : xs.length ≤ 20
  · exact fo_small xs _ h3 rfl hb a cap W hi
  · exact fo_great (xs.take 20) 20 (Nat.le_refl _) (by rw [List.length_take]; omega) (fun x hx => hb x (List.mem_of_mem_take hx)) a cap xs.length (by omega) hc rfl W (hi.takeA 20)
end Go.Proofs.YtchphbclaapfhaaGreatDoor
