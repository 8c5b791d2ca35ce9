/- Bytes that are handed in. -/
import Derived.Test.YtljdkmfigcclkaaDoorFrame8
namespace Go.Proofs.YtljdkmfigcclkaaDoor
open Go.ChangeShapes Go.WideShapes Go.ChangeAt Go.RowKit
open Go.Deep (open_slice)
set_option linter.unusedVariables false

theorem cellsB8 : Tryd.prog.cellsOf 5 = 1 := by kernel_rfl
theorem bytes_cell {H : Type} {enc : TypeId × Value → H} {W : World} {base : Nat} {spare : Nat → Bool} {held : Bool} {fuel : Nat} {a0 : Option Addr} {len cap : Nat} {x : DataW H × List MemPlace}
    (hf : DataW.trod enc Tryd.prog W base spare held fuel 26 (Value.cells (.slice a0 len cap)).toList = some x) :
    len = 0 ∨ ∃ b off, a0 = some ⟨b, off, none⟩ ∧ len ≤ maxLen ∧ ∀ j, j < len → ∃ n : Nat, n < 256 ∧ W.cell? ⟨b, off + j, none⟩ = some (.int .u8 (n : Int)) := by
  rcases open_slice Tryd.underlying26 hf with ⟨hcs, _⟩ | ⟨a, len', cap', m, n, D, Pl, hcs, _, hl, hm, hmm, _, hel⟩
  · simp [Value.cells] at hcs
    exact .inl hcs.2.1
  · simp [Value.cells] at hcs
    obtain ⟨rfl, rfl, rfl⟩ := hcs
    by_cases z : len = 0
    · exact .inl z
    have hlm : len ≤ m := by rw [hmm]; split <;> omega
    obtain ⟨b, off, spot⟩ := a
    have one : ∀ i, i < m → ∃ n : Nat, n < 256 ∧ W.cell? (((⟨b, off, spot⟩ : Addr).add (i * 1)).add 0) = some (.int .u8 (n : Int)) := fun i hi => by
      obtain ⟨cs', hc0, ht0⟩ := hel i hi
      rw [cellsB8] at hc0
      obtain ⟨_, hl3, hcell⟩ := World.cells?_some hc0
      obtain ⟨s, e0, _, hz⟩ := DataW.trod_int Tryd.underlying5 ht0
      subst e0
      have hw : 0 ≤ s ∧ s < 256 := by
        simp only [Lit.wf, Bool.and_eq_true, decide_eq_true_eq, show IntKind.u8.min = 0 from rfl, show IntKind.u8.max = 255 from rfl] at hz
        omega
      refine ⟨s.toNat, by omega, ?_⟩
      rw [show ((s.toNat : Nat) : Int) = s by omega]
      exact hcell 0 (by omega)
    have hspot : spot = none := by
      obtain ⟨k, _, r0⟩ := one 0 (by omega)
      simpa [Addr.add] using World.cell?_spot r0
    subst hspot
    refine .inr ⟨b, off, rfl, by omega, fun i hi => ?_⟩
    obtain ⟨k, hz, r0⟩ := one i (by omega)
    simp only [WideShapes.add_plain, Nat.mul_one, Nat.add_zero] at r0
    exact ⟨k, hz, r0⟩
end Go.Proofs.YtljdkmfigcclkaaDoor
