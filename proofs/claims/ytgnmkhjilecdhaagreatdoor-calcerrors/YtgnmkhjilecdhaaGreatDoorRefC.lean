/- The reference's Mod: what it answers, proved of the Go text. -/
import Derived.Test.YtgnmkhjilecdhaaGreatDoorRefB
import Derived.RegionTactic
namespace Go.Proofs.YtgnmkhjilecdhaaGreatDoor
open Go.RowKit Go.Sort
set_option linter.unusedVariables false

theorem bcell {W w1 : World} (hb : Below W.heap.size W w1) : (∀ b o, b < W.heap.size → w1.cell? ⟨b, o, none⟩ = W.cell? ⟨b, o, none⟩) ∧ (∀ b o, b < W.heap.size → w1.frozen? ⟨b, o, none⟩ = W.frozen? ⟨b, o, none⟩) :=
  ⟨fun b o h => hb.cell (p := ⟨b, o, none⟩) h, fun b o h => hb.frozen (p := ⟨b, o, none⟩) h⟩
theorem tdiv_sval (a b : Int) : a.tdiv b = sval (decide (a < 0) != decide (b < 0)) ((a.natAbs : Int) / (b.natAbs : Int)) := by
  have h : ∀ x y : Nat, ((x : Int)).tdiv (y : Int) = (x : Int) / (y : Int) := fun x y => Int.tdiv_eq_ediv_of_nonneg (by omega)
  unfold sval
  by_cases ha : a < 0 <;> by_cases hb : b < 0
  · obtain ⟨x, rfl⟩ : ∃ x : Nat, a = -(x : Int) := ⟨a.natAbs, by omega⟩
    obtain ⟨y, rfl⟩ : ∃ y : Nat, b = -(y : Int) := ⟨b.natAbs, by omega⟩
    rw [Int.neg_tdiv_neg, h, decide_eq_true ha, decide_eq_true hb]; simp
  · obtain ⟨x, rfl⟩ : ∃ x : Nat, a = -(x : Int) := ⟨a.natAbs, by omega⟩
    obtain ⟨y, rfl⟩ : ∃ y : Nat, b = (y : Int) := ⟨b.natAbs, by omega⟩
    rw [Int.neg_tdiv, h, decide_eq_true ha, decide_eq_false hb]; simp
  · obtain ⟨x, rfl⟩ : ∃ x : Nat, a = (x : Int) := ⟨a.natAbs, by omega⟩
    obtain ⟨y, rfl⟩ : ∃ y : Nat, b = -(y : Int) := ⟨b.natAbs, by omega⟩
    rw [Int.tdiv_neg, h, decide_eq_false ha, decide_eq_true hb]; simp
  · obtain ⟨x, rfl⟩ : ∃ x : Nat, a = (x : Int) := ⟨a.natAbs, by omega⟩
    obtain ⟨y, rfl⟩ : ∃ y : Nat, b = (y : Int) := ⟨b.natAbs, by omega⟩
    rw [h, decide_eq_false ha, decide_eq_false hb]; simp
theorem tmod_sval (a b : Int) : a.tmod b = sval (decide (a < 0)) ((a.natAbs : Int) % (b.natAbs : Int)) := by
  have e : ((a.natAbs % b.natAbs : Nat) : Int) = (a.natAbs : Int) % (b.natAbs : Int) := by simp
  have n : (a.tmod b).natAbs = a.natAbs % b.natAbs := Int.natAbs_tmod a b
  have s := tmod_sign a b
  rw [← e]
  unfold sval
  by_cases ha : a < 0
  · rw [if_pos (by simpa using ha)]
    have := s.2 (by omega); omega
  · rw [if_neg (by simpa using ha)]
    have := s.1 (by omega); omega

/-- Both answer the same. -/
def Agree (f g : FuncId) (args : Array Value) : Prop := ∃ v, (∀ w, Calls Tryz.prog f args w fun e w' => e = .returned v ∧ Below w.heap.size w w') ∧ (∀ w, Calls Tryz.prog g args w fun e w' => e = .returned v ∧ Below w.heap.size w w')
def Agree2 (f g : FuncId) (args : Array Value) : Prop := ∃ v e0 : Int, (∀ w, Calls Tryz.prog f args w fun e w' => e = .returned (.tuple #[.int .i64 v, .int .i64 e0]) ∧ Below w.heap.size w w') ∧ (∀ w, Calls Tryz.prog g args w fun e w' => e = .returned (.tuple #[.int .i64 v, .int .i64 e0]) ∧ Below w.heap.size w w')
theorem below_same {f : FuncId} {args : Array Value} {v : Value} {w : World} (h : Calls Tryz.prog f args w fun e w' => e = .returned v ∧ w' = w) : Calls Tryz.prog f args w fun e w' => e = .returned v ∧ Below w.heap.size w w' :=
  h.mono fun _ _ ⟨p, q⟩ => ⟨p, q ▸ Below.refl _ _⟩
theorem below_draws {f : FuncId} {args : Array Value} {v : Value} {w : World} (h : Calls Tryz.prog f args w fun e w' => e = .returned v ∧ ∃ n, w' = w.drewN n) : Calls Tryz.prog f args w fun e w' => e = .returned v ∧ Below w.heap.size w w' :=
  h.mono fun _ _ ⟨p, n, q⟩ => ⟨p, q ▸ below_drewN (Below.refl _ _) n⟩
end Go.Proofs.YtgnmkhjilecdhaaGreatDoor
