/- A slice of numbers that is handed in: what its reading says of it. -/
import Derived.Test.YtnpdkojhlgchlaaGreatDoorCol15
import Derived.Test.YtnpdkojhlgchlaaGreatDoorBgnJ
import Derived.ProofKit
import Derived.OpenShut
import Derived.ChangeOld
import Derived.Deep.Slices
namespace Go.Proofs.YtnpdkojhlgchlaaGreatDoor
open Go.ChangeShapes Go.WideShapes Go.ChangeAt Go.RowKit
open Go.Deep (open_slice1)
set_option linter.unusedVariables false

theorem cellsL : Tryz.prog.cellsOf 2 = 1 := by kernel_rfl
theorem addr_plain (b o j : Nat) : (⟨b, o, none⟩ : Addr).add j = ⟨b, o + j, none⟩ := by unfold Addr.add; split <;> simp_all
theorem ints_of {H : Type} {enc : TypeId × Value → H} {W : World} {base : Nat} {spare : Nat → Bool} {held : Bool} {fuel : Nat} {a0 : Option Addr} {len cap : Nat} {x : DataW H × List MemPlace}
    (hf : DataW.trod enc Tryz.prog W base spare held fuel 36 (Value.cells (.slice a0 len cap)).toList = some x) : len ≤ cap ∧ ∃ ns : List Int, ns.length = len ∧ (∀ x ∈ ns, -9223372036854775808 ≤ x ∧ x ≤ 9223372036854775807) ∧ IntsAt W a0 ns := by
  rcases open_slice1 Tryz.underlying36 cellsL hf with ⟨hcs, _⟩ | ⟨a, len', cap', m, n, V, D, Pl, hcs, _, hl, hm, hmm, _, hel⟩
  · simp [Value.cells] at hcs
    obtain ⟨rfl, rfl, rfl⟩ := hcs
    exact ⟨Nat.le_refl _, [], rfl, (fun x hx => by cases hx), .inl rfl⟩
  · simp [Value.cells] at hcs
    obtain ⟨rfl, rfl, rfl⟩ := hcs
    refine ⟨hl, (List.range len).map (fun i => intOf (V i)), by simp, ?_, ?_⟩
    all_goals
      have hlm : len ≤ m := by rw [hmm]; split <;> omega
      have one : ∀ i, i < len → ∃ k, V i = .int .i64 k ∧ -9223372036854775808 ≤ k ∧ k ≤ 9223372036854775807 := fun i hi => by
        obtain ⟨_, ht0⟩ := hel i (by omega)
        obtain ⟨k, e0, _, w1⟩ := DataW.trod_int Tryz.underlying2 ht0
        exact ⟨k, by simpa using e0, (bounds_i64 w1).1, (bounds_i64 w1).2⟩
    · intro y hy
      obtain ⟨i, hi, rfl⟩ := List.mem_map.1 hy
      obtain ⟨k, hk, h1, h2⟩ := one i (by simpa using hi)
      rw [hk]
      exact ⟨h1, h2⟩
    · by_cases z : len = 0
      · left; rw [z]; rfl
      obtain ⟨b, off, spot⟩ := a
      have hspot : spot = none := by
        obtain ⟨r0, _⟩ := hel 0 (by omega)
        simpa [Addr.add] using World.cell?_spot r0
      subst hspot
      refine .inr ⟨b, off, rfl, fun j y hy => ?_⟩
      have hj : j < len := by have := (List.getElem?_eq_some_iff.1 hy).1; simpa using this
      rw [List.getElem?_map, List.getElem?_range hj] at hy
      obtain rfl : intOf (V j) = y := by simpa using hy
      obtain ⟨k, hk, _, _⟩ := one j hj
      obtain ⟨r0, _⟩ := hel j (by omega)
      rw [addr_plain, hk] at r0
      rw [hk]
      exact r0
end Go.Proofs.YtnpdkojhlgchlaaGreatDoor
