/- A slice of truths that is handed in: what its reading says of it; FoldTruths for every such slice. -/
import Derived.Test.YtchphbclaapfhaaGreatDoorFoldTruths
import Derived.Test.YtchphbclaapfhaaGreatDoorBgnJ
import Derived.ProofKit
import Derived.OpenShut
import Derived.ChangeOld
import Derived.Deep.Slices
namespace Go.Proofs.YtchphbclaapfhaaGreatDoor
open Go.ChangeShapes Go.WideShapes Go.ChangeAt Go.RowKit
open Go.Deep (open_slice1)
set_option linter.unusedVariables false

theorem cellsBo : Tryz.prog.cellsOf 4 = 1 := by kernel_rfl
theorem addr_plain (b o j : Nat) : (⟨b, o, none⟩ : Addr).add j = ⟨b, o + j, none⟩ := by unfold Addr.add; split <;> simp_all
def boolOf (v : Value) : Bool := match v with | .bool b => b | _ => false
theorem bools_of {H : Type} {enc : TypeId × Value → H} {W : World} {base : Nat} {spare : Nat → Bool} {held : Bool} {fuel : Nat} {a0 : Option Addr} {len cap : Nat} {x : DataW H × List MemPlace}
    (hf : DataW.trod enc Tryz.prog W base spare held fuel 43 (Value.cells (.slice a0 len cap)).toList = some x) : len ≤ cap ∧ ∃ bs : List Bool, bs.length = len ∧ BoolsAt W a0 bs := by
  rcases open_slice1 Tryz.underlying43 cellsBo hf with ⟨hcs, _⟩ | ⟨a, len', cap', m, n, V, D, Pl, hcs, _, hl, hm, hmm, _, hel⟩
  · simp [Value.cells] at hcs
    obtain ⟨rfl, rfl, rfl⟩ := hcs
    exact ⟨Nat.le_refl _, [], rfl, .inl rfl⟩
  · simp [Value.cells] at hcs
    obtain ⟨rfl, rfl, rfl⟩ := hcs
    refine ⟨hl, (List.range len).map (fun i => boolOf (V i)), by simp, ?_⟩
    have hlm : len ≤ m := by rw [hmm]; split <;> omega
    have one : ∀ i, i < len → ∃ k, V i = .bool k := fun i hi => by
      obtain ⟨_, ht0⟩ := hel i (by omega)
      obtain ⟨k, e0, _⟩ := DataW.trod_bool Tryz.underlying4 ht0
      exact ⟨k, by simpa using e0⟩
    by_cases z : len = 0
    · left; rw [z]; rfl
    obtain ⟨b, off, spot⟩ := a
    have hspot : spot = none := by
      obtain ⟨r0, _⟩ := hel 0 (by omega)
      simpa [Addr.add] using World.cell?_spot r0
    subst hspot
    refine .inr ⟨b, off, rfl, fun j y hy => ?_⟩
    have hj : j < len := by have := (List.getElem?_eq_some_iff.1 hy).1; simpa using this
    rw [List.getElem?_map, List.getElem?_range hj] at hy
    obtain rfl : boolOf (V j) = y := by simpa using hy
    obtain ⟨k, hk⟩ := one j hj
    obtain ⟨r0, _⟩ := hel j (by omega)
    rw [addr_plain, hk] at r0
    rw [hk]
    exact r0
theorem foldTruths_walk (a : Option Addr) (len cap : Nat) (W : World) (h : len ≤ cap ∧ ∃ bs : List Bool, bs.length = len ∧ BoolsAt W a bs) : Calls Tryz.prog 6 #[.slice a len cap] W fun e w' => e = .returned (.bool true) ∧ Below W.heap.size W w' := by
  obtain ⟨hc, bs, rfl, hi⟩ := h
  by_cases h3 : bs.length ≤ 300
  · exact ft_small bs _ h3 rfl a cap W hi
  · exact ft_great (bs.take 300) 300 (Nat.le_refl _) (by rw [List.length_take]; omega) a cap bs.length (by omega) hc rfl W (hi.take 300)
end Go.Proofs.YtchphbclaapfhaaGreatDoor
