/- How a list law's arguments are opened: texts and numbers in lists. -/
import Derived.Test.YtmoekapoajkaiaaFind13
import Derived.ProofKit
import Derived.OpenShut
import Derived.ChangeOld
import Derived.Below
import Derived.Deep.Slices
namespace Go.Proofs.Ytmoekapoajkaiaa
open Go.ChangeShapes Go.WideShapes Go.ChangeAt Go.RowKit
open Go.Deep (open_slice)
set_option linter.unusedVariables false

theorem own : ownKnob Try.prog.godebug = none := by kernel_rfl
theorem laidOut : laidOutB Try.prog = true := by kernel_rfl
theorem cellsI : Try.prog.cellsOf 3 = 1 := by kernel_rfl
theorem cellsS : Try.prog.cellsOf 9 = 1 := by kernel_rfl
theorem addr_plain (b o j : Nat) : (⟨b, o, none⟩ : Addr).add j = ⟨b, o + j, none⟩ := by unfold Addr.add; split <;> simp_all
def IntsIn (w : World) (a : Option Addr) (len : Nat) : Prop := len = 0 ∨ ∃ b off, a = some ⟨b, off, none⟩ ∧ len ≤ maxLen ∧ ∀ j, j < len → ∃ k : Int, w.cell? ⟨b, off + j, none⟩ = some (.int .i64 k)
def StrsIn (w : World) (a : Option Addr) (len : Nat) : Prop := len = 0 ∨ ∃ b off, a = some ⟨b, off, none⟩ ∧ len ≤ maxLen ∧ ∀ j, j < len → ∃ s : ByteArray, w.cell? ⟨b, off + j, none⟩ = some (.string s) ∧ s.size ≤ maxLen
theorem ints_of {H : Type} {enc : TypeId × Value → H} {W : World} {base : Nat} {spare : Nat → Bool} {held : Bool} {fuel : Nat} {a0 : Option Addr} {len cap : Nat} {x : DataW H × List MemPlace}
    (hf : DataW.trod enc Try.prog W base spare held fuel 23 (Value.cells (.slice a0 len cap)).toList = some x) : IntsIn W a0 len := by
  rcases open_slice Try.underlying23 hf with ⟨hcs, _⟩ | ⟨a, len', cap', m, n, D, Pl, hcs, _, hl, hm, hmm, _, hel⟩
  · simp [Value.cells] at hcs
    exact .inl hcs.2.1
  · simp [Value.cells] at hcs
    obtain ⟨rfl, rfl, rfl⟩ := hcs
    by_cases z : len = 0
    · exact .inl z
    have hlm : len ≤ m := by rw [hmm]; split <;> omega
    obtain ⟨b, off, spot⟩ := a
    have one : ∀ i, i < m → ∃ k, W.cell? (((⟨b, off, spot⟩ : Addr).add (i * 1)).add 0) = some (.int .i64 k) := fun i hi => by
      obtain ⟨cs', hc0, ht0⟩ := hel i hi
      rw [cellsI] at hc0
      obtain ⟨_, hl3, hcell⟩ := World.cells?_some hc0
      obtain ⟨k, e0, _, _⟩ := DataW.trod_int Try.underlying3 ht0
      subst e0
      exact ⟨k, hcell 0 (by omega)⟩
    have hspot : spot = none := by
      obtain ⟨k, r0⟩ := one 0 (by omega)
      simpa [Addr.add] using World.cell?_spot r0
    subst hspot
    refine .inr ⟨b, off, rfl, by omega, fun i hi => ?_⟩
    obtain ⟨k, r0⟩ := one i (by omega)
    simp only [addr_plain, Nat.mul_one, Nat.add_zero] at r0
    exact ⟨k, r0⟩
theorem strs_of {H : Type} {enc : TypeId × Value → H} {W : World} {base : Nat} {spare : Nat → Bool} {held : Bool} {fuel : Nat} {a0 : Option Addr} {len cap : Nat} {x : DataW H × List MemPlace}
    (hf : DataW.trod enc Try.prog W base spare held fuel 22 (Value.cells (.slice a0 len cap)).toList = some x) : StrsIn W a0 len := by
  rcases open_slice Try.underlying22 hf with ⟨hcs, _⟩ | ⟨a, len', cap', m, n, D, Pl, hcs, _, hl, hm, hmm, _, hel⟩
  · simp [Value.cells] at hcs
    exact .inl hcs.2.1
  · simp [Value.cells] at hcs
    obtain ⟨rfl, rfl, rfl⟩ := hcs
    by_cases z : len = 0
    · exact .inl z
    have hlm : len ≤ m := by rw [hmm]; split <;> omega
    obtain ⟨b, off, spot⟩ := a
    have one : ∀ i, i < m → ∃ s : ByteArray, W.cell? (((⟨b, off, spot⟩ : Addr).add (i * 1)).add 0) = some (.string s) ∧ s.size ≤ maxLen := fun i hi => by
      obtain ⟨cs', hc0, ht0⟩ := hel i hi
      rw [cellsS] at hc0
      obtain ⟨_, hl3, hcell⟩ := World.cells?_some hc0
      obtain ⟨k, e0, _, w2⟩ := DataW.trod_string Try.underlying9 ht0
      subst e0
      exact ⟨k, hcell 0 (by omega), w2⟩
    have hspot : spot = none := by
      obtain ⟨k, r0, _⟩ := one 0 (by omega)
      simpa [Addr.add] using World.cell?_spot r0
    subst hspot
    refine .inr ⟨b, off, rfl, by omega, fun i hi => ?_⟩
    obtain ⟨k, r0, r1⟩ := one i (by omega)
    simp only [addr_plain, Nat.mul_one, Nat.add_zero] at r0
    exact ⟨k, r0, r1⟩
end Go.Proofs.Ytmoekapoajkaiaa
