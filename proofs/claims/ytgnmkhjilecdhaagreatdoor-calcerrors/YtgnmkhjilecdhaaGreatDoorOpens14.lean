/- A slice of values that is handed in: its values, of 64 bits, and where they lie. -/
import Derived.Test.YtgnmkhjilecdhaaGreatDoorFr14J
import Derived.Test.YtgnmkhjilecdhaaGreatDoorL14J
import Derived.ProofKit
import Derived.OpenShut
import Derived.ChangeOld
import Derived.Below
import Derived.Deep.Slices
namespace Go.Proofs.YtgnmkhjilecdhaaGreatDoor
open Go.ChangeShapes Go.WideShapes Go.ChangeAt Go.RowKit
open Go.Deep (open_slice)
set_option linter.unusedVariables false
set_option maxRecDepth 100000

theorem addr_plain14 (b o j : Nat) : (⟨b, o, none⟩ : Addr).add j = ⟨b, o + j, none⟩ := by unfold Addr.add; split <;> simp_all
theorem vals_of14 {H : Type} {enc : TypeId × Value → H} {W : World} {base : Nat} {spare : Nat → Bool} {held : Bool} {fuel : Nat} {a0 : Option Addr} {len cap : Nat} {x : DataW H × List MemPlace}
    (hf : DataW.trod enc Tryz.prog W base spare held fuel 22 (Value.cells (.slice a0 len cap)).toList = some x) : len ≤ cap ∧ ∃ xs : List Va, xs.length = len ∧ (∀ x ∈ xs, -9223372036854775808 ≤ x.i ∧ x.i ≤ 9223372036854775807) ∧ ValsAt W a0 xs := by
  rcases open_slice Tryz.underlying22 hf with ⟨hcs, _⟩ | ⟨a, len', cap', m, n, D, Pl, hcs, _, hl, hm, hmm, _, hel⟩
  · simp [Value.cells] at hcs
    obtain ⟨rfl, rfl, rfl⟩ := hcs
    exact ⟨Nat.le_refl _, [], rfl, (fun x hx => by cases hx), .inl rfl⟩
  · simp [Value.cells] at hcs
    obtain ⟨rfl, rfl, rfl⟩ := hcs
    refine ⟨hl, ?_⟩
    by_cases z : len = 0
    · subst z; exact ⟨[], rfl, (fun x hx => by cases hx), .inl rfl⟩
    have hlm : len ≤ m := by rw [hmm]; split <;> omega
    obtain ⟨b, off, spot⟩ := a
    have hspot : spot = none := by
      obtain ⟨cs', hc0, ht0⟩ := hel 0 (by omega)
      rw [cellsValue] at hc0
      obtain ⟨_, hl3, hcell⟩ := World.cells?_some hc0
      obtain ⟨k, i, t, rfl, _⟩ := value_cells ht0
      have r0 : W.cell? (((⟨b, off, spot⟩ : Addr).add (0 * 3)).add 0) = some (.int .i64 k) := hcell 0 (by omega)
      simpa [Addr.add] using World.cell?_spot r0
    subst hspot
    have one : ∀ i, i < len → ∃ v : Va, VaAt W b (off + i * 3) v ∧ -9223372036854775808 ≤ v.i ∧ v.i ≤ 9223372036854775807 := fun i hi => by
      obtain ⟨cs', hc0, ht0⟩ := hel i (by omega)
      rw [cellsValue] at hc0
      obtain ⟨_, hl3, hcell⟩ := World.cells?_some hc0
      obtain ⟨k, n, t, rfl, b1, b2, _⟩ := value_cells ht0
      have r0 := hcell 0 (by omega)
      have r1 := hcell 1 (by omega)
      have r2 := hcell 2 (by omega)
      simp only [addr_plain14] at r0 r1 r2
      exact ⟨⟨k, n, t⟩, ⟨r0, r1, r2⟩, b1, b2⟩
    obtain ⟨f, hf'⟩ : ∃ f : Nat → Va, ∀ i, i < len → VaAt W b (off + i * 3) (f i) ∧ -9223372036854775808 ≤ (f i).i ∧ (f i).i ≤ 9223372036854775807 :=
      ⟨fun i => if h : i < len then (one i h).choose else ⟨0, 0, no⟩, fun i h => by simp only [h, dite_true]; exact (one i h).choose_spec⟩
    refine ⟨(List.range len).map f, by simp, fun y hy => ?_, .inr ⟨b, off, rfl, fun j y hy => ?_⟩⟩
    · obtain ⟨i, hi, rfl⟩ := List.mem_map.1 hy
      exact (hf' i (by simpa using hi)).2
    · have hj : j < len := by have := (List.getElem?_eq_some_iff.1 hy).1; simpa using this
      rw [List.getElem?_map, List.getElem?_range hj] at hy
      obtain rfl : f j = y := by simpa using hy
      exact (hf' j hj).1
theorem ValsAt.takeV {w : World} {a : Option Addr} {xs : List Va} (h : ValsAt w a xs) (n : Nat) : ValsAt w a (xs.take n) := by
  rcases h with h | ⟨b, o, h, g⟩
  · left; rw [h]; simp
  · exact .inr ⟨b, o, h, fun j x hx => g j x (by rw [List.getElem?_take] at hx; split at hx; exact hx; cases hx)⟩
end Go.Proofs.YtgnmkhjilecdhaaGreatDoor
