/- What every card's proof of this seat shares: the start that fits; the listed table and the world's shape give what the walks ask; texts and bytes that are handed in. -/
import Derived.Test.YtcabgnikbgoikaaDoorRows
import Derived.Test.YtcabgnikbgoikaaDoorCards
import Derived.Test.YtcabgnikbgoikaaDoorTie
import Derived.Test.YtcabgnikbgoikaaDoorKit8
import Derived.HandedShaped
import Derived.ProofKit
import Derived.OpenShut
import Derived.ShutString
import Derived.ChangeOld
import Derived.Below
import Derived.LaidMore
import Derived.Lay
import Derived.Lib.LaidTab
import Derived.Deep.Slices
import Derived.Stop.Joined
import Derived.SevenTiedAt
namespace Go.Proofs.YtcabgnikbgoikaaDoor
open Go.ChangeShapes Go.WideShapes Go.ChangeAt Go.RowKit
open Go.Deep (open_slice)
set_option linter.unusedVariables false

theorem own : ownKnob Tryd.prog.godebug = none := by kernel_rfl
theorem laidOut : laidOutB Tryd.prog = true := by kernel_rfl
abbrev laid4 : List (String × DataW Unit) := [("unicode/utf8.acceptRanges", Rows.laid_unicode_utf8_acceptRanges), ("quadrille/lex.spelt", Rows.laid_quadrille_lex_spelt), ("unicode.CaseRanges", Rows.laid_unicode_CaseRanges), ("unicode/utf8.first", Rows.laid_unicode_utf8_first)]
theorem met (os : Os) (args : Array Value) : laidMetH Tryd.prog laid4 ((World.laidAll Tryd.prog os laid4).forCall (fun _ _ => 0) ⟨#[], args, []⟩).memory := by
  rw [MakeChecks.laidMetH_plain _ _ _ (by kernel_rfl)]
  exact laidMet_laidAll _ (by kernel_rfl) (by kernel_rfl)
theorem gSp : Tryd.prog.globalNamed "quadrille/lex.spelt" = some 0 := by kernel_rfl
theorem tSp : (Tryd.prog.globals[0]?).map (·.type) = some 68 := by kernel_rfl
theorem sp_is {H : Type} : (Rows.laid_quadrille_lex_spelt : DataW H) = .agg (spelts.map fun p => .lit (.string p)) := by kernel_rfl
theorem cells_of_strs {H : Type} {enc : TypeId × Value → H} {P : Program} {w : World} {base : Nat} {sp : Nat → Bool} {held : Bool} {fuel : Nat} {t e : TypeId} {n : Nat} {cs : List Value} {zs : List (List UInt8)} {p : List MemPlace}
    (ht : P.underlying t = some (.array n e)) (he : P.underlying e = some .string) (hce : P.cellsOf e = 1) (hct : P.cellsOf t = n)
    (h : DataW.trod enc P w base sp held fuel t cs = some (.agg (zs.map fun z => .lit (.string z)), p)) : cs = zs.map fun z => Value.string (ba z) := by
  cases fuel with
  | zero => simp [DataW.trod] at h
  | succ fuel =>
    simp only [DataW.trod, ht, hce, hct, Nat.mul_one] at h
    split at h
    · rename_i hl
      obtain ⟨xs, hm, hx⟩ := Option.map_eq_some_iff.1 h
      have hxs : xs.map (·.1) = zs.map fun z => (DataW.lit (.string z) : DataW H) := by
        have := congrArg Prod.fst hx
        simpa using this
      have hxl : xs.length = n := by simpa using Lib.mapM_length hm
      have hzl : zs.length = n := by
        have := congrArg List.length hxs
        simp at this
        omega
      apply List.ext_getElem?
      intro i
      by_cases hi : i < n
      · obtain ⟨b, hb, hf⟩ := Lib.mapM_at hm i i (by simp [hi])
        obtain ⟨z, hc, rfl, _⟩ := DataW.trod_string he hf
        have h1 : cs[i]? = some (.string z) := by
          have := congrArg (·[0]?) hc
          simpa [List.getElem?_take, List.getElem?_drop] using this
        have h2 : (xs.map (·.1))[i]? = some (DataW.lit (.string z.data.toList) : DataW H) := by simp [hb]
        rw [hxs] at h2
        simp only [List.getElem?_map, Option.map_eq_some_iff, DataW.lit.injEq, Lit.string.injEq] at h2
        obtain ⟨z', hz', e'⟩ := h2
        rw [h1, List.getElem?_map, hz', e']
        rfl
      · rw [List.getElem?_eq_none (by omega), List.getElem?_eq_none (by simp; omega)]
    · cases h
/-- What the row's condition and the world's shape give the walks. -/
theorem lay_of {W : World} (h : laidMetH Tryd.prog laid4 W) (hs : W.ShapedOpen Tryd.prog) : Lay8 W := by
  rw [MakeChecks.laidMetH_plain _ _ _ (by kernel_rfl)] at h
  obtain ⟨ps, ⟨g0, t0, cs0, f0, p0, q0, hg0, ht0, hv0, hd0, ⟨g1, t1, cs1, f1, p1, q1, hg1, ht1, hv1, hd1, _, _⟩, _⟩, _⟩ := h
  obtain rfl := Option.some.inj (gSp.symm.trans hg1)
  obtain rfl := Option.some.inj (tSp.symm.trans ht1)
  rw [sp_is] at hd1
  have hcs := cells_of_strs Tryd.underlying68 Tryd.underlying9 (by kernel_rfl) (by kernel_rfl) hd1
  refine ⟨?_, ?_⟩
  · unfold World.var? at hv1
    rw [gSp] at hv1
    simp only [Option.bind_some] at hv1
    cases hh : W.heap[0]? with
    | none => rw [hh] at hv1; cases hv1
    | some o =>
      rw [hh] at hv1
      cases o with
      | cells c t fr =>
        simp only [Option.some.injEq] at hv1
        subst hv1
        exact ⟨t, fr, by rw [← hcs]⟩
      | _ => cases hv1
  · exact Go.Proofs.cell_of_shapedOpen_int (zero := #[.int .i64 0]) (t := 3) hs (of_decide_eq_true (by kernel_rfl)) (by kernel_rfl) rfl (by kernel_rfl) (by kernel_rfl) Tryd.underlying3
theorem cellsS : Tryd.prog.cellsOf 9 = 1 := by kernel_rfl
theorem texts_cell {H : Type} {enc : TypeId × Value → H} {W : World} {base : Nat} {spare : Nat → Bool} {held : Bool} {fuel : Nat} {a0 : Option Addr} {len cap : Nat} {x : DataW H × List MemPlace}
    (hf : DataW.trod enc Tryd.prog W base spare held fuel 22 (Value.cells (.slice a0 len cap)).toList = some x) :
    len = 0 ∨ ∃ b off, a0 = some ⟨b, off, none⟩ ∧ len ≤ maxLen ∧ ∀ j, j < len → ∃ s : ByteArray, W.cell? ⟨b, off + j, none⟩ = some (.string s) ∧ s.size ≤ maxLen := by
  rcases open_slice Tryd.underlying22 hf with ⟨hcs, _⟩ | ⟨a, len', cap', m, n, D, Pl, hcs, _, hl, hm, hmm, _, hel⟩
  · simp [Value.cells] at hcs
    exact .inl hcs.2.1
  · simp [Value.cells] at hcs
    obtain ⟨rfl, rfl, rfl⟩ := hcs
    by_cases z : len = 0
    · exact .inl z
    have hlm : len ≤ m := by rw [hmm]; split <;> omega
    obtain ⟨b, off, spot⟩ := a
    have one : ∀ i, i < m → ∃ s : ByteArray, W.cell? (((⟨b, off, spot⟩ : Addr).add (i * 1)).add 0) = some (.string s) ∧ s.size ≤ maxLen := fun i hi => by
      obtain ⟨cs', hc0, ht0⟩ := hel i hi
      rw [cellsS] at hc0
      obtain ⟨_, hl3, hcell⟩ := World.cells?_some hc0
      obtain ⟨s, e0, _, hz⟩ := DataW.trod_string Tryd.underlying9 ht0
      subst e0
      exact ⟨s, hcell 0 (by omega), hz⟩
    have hspot : spot = none := by
      obtain ⟨k, r0, _⟩ := one 0 (by omega)
      simpa [Addr.add] using World.cell?_spot r0
    subst hspot
    refine .inr ⟨b, off, rfl, by omega, fun i hi => ?_⟩
    obtain ⟨k, r0, hz⟩ := one i (by omega)
    simp only [WideShapes.add_plain, Nat.mul_one, Nat.add_zero] at r0
    exact ⟨k, r0, hz⟩
end Go.Proofs.YtcabgnikbgoikaaDoor
