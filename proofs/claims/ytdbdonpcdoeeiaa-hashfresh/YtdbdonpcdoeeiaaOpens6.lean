/- What every law's proof of this seat shares: a value, a slice of values or of numbers that is handed in: what its reading says of it. -/
import Derived.Test.YtdbdonpcdoeeiaaVals6
import Derived.ProofKit
import Derived.OpenShut
import Derived.ChangeOld
import Derived.Below
import Derived.Deep.Slices
namespace Go.Proofs.Ytdbdonpcdoeeiaa
open Go.ChangeShapes Go.WideShapes Go.ChangeAt Go.RowKit
open Go.Deep (open_slice)
set_option linter.unusedVariables false

theorem own : ownKnob Try.prog.godebug = none := by kernel_rfl
theorem laidOut : laidOutB Try.prog = true := by kernel_rfl
theorem cellsValue : Try.prog.cellsOf 26 = 3 := by kernel_rfl
theorem cellsI : Try.prog.cellsOf 3 = 1 := by kernel_rfl
theorem cellsL : Try.prog.cellsOf 2 = 1 := by kernel_rfl
theorem cellsS : Try.prog.cellsOf 9 = 1 := by kernel_rfl
theorem addr_plain (b o j : Nat) : (⟨b, o, none⟩ : Addr).add j = ⟨b, o + j, none⟩ := by unfold Addr.add; split <;> simp_all
theorem agg_of {v : Value} {cs : List Value} (h : v.cells.toList = cs) (hl : cs.length ≠ 1) : v = .agg cs.toArray := by
  cases v
  case agg xs => simp only [Value.cells] at h; rw [← h]
  all_goals (simp only [Value.cells] at h; subst h; simp at hl)
theorem value_cells {H : Type} {enc : TypeId × Value → H} {w : World} {base : Nat} {spare : Nat → Bool} {held : Bool} {fuel : Nat} {cs : List Value} {x : DataW H × List MemPlace} (hf : DataW.trod enc Try.prog w base spare held fuel 26 cs = some x) :
    ∃ k i t, cs = [.int .i64 k, .int .i64 i, .string t] ∧ -9223372036854775808 ≤ i ∧ i ≤ 9223372036854775807 ∧ t.size ≤ maxLen := by
  obtain ⟨xs, n, _, _, hl, hlen, hfs⟩ := DataW.trod_struct Try.underlying26 hf
  rw [cellsValue] at hl
  obtain ⟨c0, c1, c2, rfl⟩ : ∃ c0 c1 c2, cs = [c0, c1, c2] := by
    match cs, hl with
    | [c0, c1, c2], _ => exact ⟨c0, c1, c2, rfl⟩
  match xs, hlen with
  | [y0, y1, y2], _ =>
    have t0 := hfs 0 _ rfl
    have t1 := hfs 1 _ rfl
    have t2 := hfs 2 _ rfl
    obtain ⟨k, e0, _, _⟩ := DataW.trod_int Try.underlying3 t0
    obtain ⟨i, e1, _, w1⟩ := DataW.trod_int Try.underlying2 t1
    obtain ⟨t, e2, _, w2⟩ := DataW.trod_string Try.underlying9 t2
    simp [cellsI] at e0
    simp [cellsL] at e1
    simp [cellsS] at e2
    subst e0 e1 e2
    exact ⟨k, i, t, rfl, (bounds_i64 w1).1, (bounds_i64 w1).2, w2⟩
theorem open_val {H : Type} {enc : TypeId × Value → H} {w : World} {base : Nat} {spare : Nat → Bool} {held : Bool} {v : Value} {d : DataW H} {ps : List MemPlace} (h : DataW.Trod enc Try.prog w base spare held 26 v d ps) :
    ∃ k i t, v = vV k i t ∧ -9223372036854775808 ≤ i ∧ i ≤ 9223372036854775807 ∧ t.size ≤ maxLen := by
  obtain ⟨fuel, hf⟩ := h
  obtain ⟨k, i, t, hc, h1, h2, h3⟩ := value_cells hf
  exact ⟨k, i, t, agg_of hc (by simp), h1, h2, h3⟩
theorem vals_of {H : Type} {enc : TypeId × Value → H} {W : World} {base : Nat} {spare : Nat → Bool} {held : Bool} {fuel : Nat} {a0 : Option Addr} {len cap : Nat} {x : DataW H × List MemPlace}
    (hf : DataW.trod enc Try.prog W base spare held fuel 22 (Value.cells (.slice a0 len cap)).toList = some x) : ValsIn W a0 len := by
  rcases open_slice Try.underlying22 hf with ⟨hcs, _⟩ | ⟨a, len', cap', m, n, D, Pl, hcs, _, hl, hm, hmm, _, hel⟩
  · simp [Value.cells] at hcs
    exact .inl hcs.2.1
  · simp [Value.cells] at hcs
    obtain ⟨rfl, rfl, rfl⟩ := hcs
    by_cases z : len = 0
    · exact .inl z
    have hlm : len ≤ m := by rw [hmm]; split <;> omega
    obtain ⟨b, off, spot⟩ := a
    have hspot : spot = none := by
      obtain ⟨cs', hc0, ht0⟩ := hel 0 (by omega)
      rw [cellsValue] at hc0
      obtain ⟨_, hl3, hcell⟩ := World.cells?_some hc0
      obtain ⟨k, i, t, rfl, _⟩ := value_cells ht0
      have r0 : W.cell? (((⟨b, off, spot⟩ : Addr).add (0 * 3)).add 0) = some (.int .i64 k) := hcell 0 (by omega)
      simpa [Addr.add] using World.cell?_spot r0
    subst hspot
    refine .inr ⟨b, off, rfl, by omega, fun i hi => ?_⟩
    obtain ⟨cs', hc0, ht0⟩ := hel i (by omega)
    rw [cellsValue] at hc0
    obtain ⟨_, hl3, hcell⟩ := World.cells?_some hc0
    obtain ⟨k, n, t, rfl, b1, b2, _⟩ := value_cells ht0
    have r0 := hcell 0 (by omega)
    have r1 := hcell 1 (by omega)
    have r2 := hcell 2 (by omega)
    simp only [addr_plain] at r0 r1 r2
    exact ⟨k, n, t, ⟨r0, r1, r2⟩, b1, b2⟩
theorem ints_of {H : Type} {enc : TypeId × Value → H} {W : World} {base : Nat} {spare : Nat → Bool} {held : Bool} {fuel : Nat} {a0 : Option Addr} {len cap : Nat} {x : DataW H × List MemPlace}
    (hf : DataW.trod enc Try.prog W base spare held fuel 23 (Value.cells (.slice a0 len cap)).toList = some x) : IntsIn W a0 len := by
  rcases open_slice Try.underlying23 hf with ⟨hcs, _⟩ | ⟨a, len', cap', m, n, D, Pl, hcs, _, hl, hm, hmm, _, hel⟩
  · simp [Value.cells] at hcs
    exact .inl hcs.2.1
  · simp [Value.cells] at hcs
    obtain ⟨rfl, rfl, rfl⟩ := hcs
    by_cases z : len = 0
    · exact .inl z
    have hlm : len ≤ m := by rw [hmm]; split <;> omega
    obtain ⟨b, off, spot⟩ := a
    have one : ∀ i, i < m → ∃ k, W.cell? (((⟨b, off, spot⟩ : Addr).add (i * 1)).add 0) = some (.int .i64 k) := fun i hi => by
      obtain ⟨cs', hc0, ht0⟩ := hel i hi
      rw [cellsI] at hc0
      obtain ⟨_, hl3, hcell⟩ := World.cells?_some hc0
      obtain ⟨k, e0, _, _⟩ := DataW.trod_int Try.underlying3 ht0
      subst e0
      exact ⟨k, hcell 0 (by omega)⟩
    have hspot : spot = none := by
      obtain ⟨k, r0⟩ := one 0 (by omega)
      simpa [Addr.add] using World.cell?_spot r0
    subst hspot
    refine .inr ⟨b, off, rfl, by omega, fun i hi => ?_⟩
    obtain ⟨k, r0⟩ := one i (by omega)
    simp only [addr_plain, Nat.mul_one, Nat.add_zero] at r0
    exact ⟨k, r0⟩
end Go.Proofs.Ytdbdonpcdoeeiaa
