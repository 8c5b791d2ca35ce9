/- What every card's proof of this seat shares: the start that fits; the listed tables and the world's shape give what the walks ask. -/
import Derived.Test.YtbmnoiddklafkaaGreatDoorRows
import Derived.Test.YtbmnoiddklafkaaGreatDoorCards
import Derived.Test.YtbmnoiddklafkaaGreatDoorTie
import Derived.Test.YtbmnoiddklafkaaGreatDoorPrJ
import Derived.Test.YtbmnoiddklafkaaGreatDoorKiJ
import Derived.HandedShaped
import Derived.ProofKit
import Derived.OpenShut
import Derived.ShutString
import Derived.ChangeOld
import Derived.Below
import Derived.LaidMore
import Derived.Lay
import Derived.Lib.LaidTab
import Derived.Deep.Slices
import Derived.Stop.Joined
import Derived.SevenTiedAt
namespace Go.Proofs.YtbmnoiddklafkaaGreatDoor.T9
open Go.ChangeShapes Go.WideShapes Go.ChangeAt Go.RowKit
set_option linter.unusedVariables false

abbrev laid6 : List (String × DataW Unit) := [("math/bits.deBruijn32tab", Rows.laid_math_bits_deBruijn32tab), ("math/bits.deBruijn64tab", Rows.laid_math_bits_deBruijn64tab), ("internal/strconv.uint64pow10", Rows.laid_internal_strconv_uint64pow10), ("unicode/utf8.acceptRanges", Rows.laid_unicode_utf8_acceptRanges), ("strconv.ErrRange", Rows.laid_strconv_ErrRange), ("strconv.ErrSyntax", Rows.laid_strconv_ErrSyntax), ("quadrille/lex.spelt", Rows.laid_quadrille_lex_spelt), ("quadrille/print.operations", Rows.laid_quadrille_print_operations), ("unicode.CaseRanges", Rows.laid_unicode_CaseRanges), ("unicode/utf8.first", Rows.laid_unicode_utf8_first)]
theorem met (os : Os) (args : Array Value) : laidMetH Tryz.prog laid6 ((World.laidAll Tryz.prog os laid6).forCall (fun _ _ => 0) ⟨#[], args, []⟩).memory := by
  rw [MakeChecks.laidMetH_plain _ _ _ (by kernel_rfl)]
  exact laidMet_laidAll _ (by kernel_rfl) (by kernel_rfl)
theorem tTab : (Tryz.prog.globals[6]?).map (·.type) = some 219 := by kernel_rfl
theorem pow10_is {H : Type} : (Rows.laid_internal_strconv_uint64pow10 : DataW H) = Lib.tabData .u64 Lib.pow10Tab := by kernel_rfl
theorem gOp : Tryz.prog.globalNamed "quadrille/print.operations" = some 0 := by kernel_rfl
theorem tOp : (Tryz.prog.globals[0]?).map (·.type) = some 125 := by kernel_rfl
theorem op_is {H : Type} : (Rows.laid_quadrille_print_operations : DataW H) = .agg (opTab.map fun p => .agg [.lit (.string p.1), .lit (.int .i64 p.2)]) := by kernel_rfl
theorem flat2 : ∀ (l : List (List UInt8 × Int)) (i : Nat) (hi : i < l.length), (l.flatMap fun p => [Value.string (ba p.1), .int .i64 p.2])[i * 2]? = some (.string (ba l[i].1)) ∧ (l.flatMap fun p => [Value.string (ba p.1), .int .i64 p.2])[i * 2 + 1]? = some (.int .i64 l[i].2)
  | [], i, hi => absurd hi (Nat.not_lt_zero i)
  | a :: r, 0, _ => ⟨rfl, rfl⟩
  | a :: r, i + 1, hi => by
    have := flat2 r i (by simpa using hi)
    rw [show (i + 1) * 2 = i * 2 + 1 + 1 by omega]
    simpa only [List.flatMap_cons, List.cons_append, List.nil_append, List.getElem?_cons_succ, List.getElem_cons_succ] using this
theorem cells_of_ops {H : Type} {enc : TypeId × Value → H} {w : World} {base : Nat} {sp : Nat → Bool} {held : Bool} {fuel : Nat} {cs : List Value} {p : List MemPlace}
    (h : DataW.trod enc Tryz.prog w base sp held fuel 125 cs = some (.agg (opTab.map fun p => .agg [.lit (.string p.1), .lit (.int .i64 p.2)]), p)) : cs = opC.toList := by
  have hce : Tryz.prog.cellsOf 124 = 2 := by kernel_rfl
  have hct : Tryz.prog.cellsOf 125 = 26 := by kernel_rfl
  have c9 : Tryz.prog.cellsOf 9 = 1 := by kernel_rfl
  have c3 : Tryz.prog.cellsOf 3 = 1 := by kernel_rfl
  cases fuel with
  | zero => simp [DataW.trod] at h
  | succ fuel =>
    simp only [DataW.trod, Tryz.underlying125, hce, hct] at h
    split at h
    · rename_i hl
      obtain ⟨xs, hm, hx⟩ := Option.map_eq_some_iff.1 h
      have hxs : xs.map (·.1) = opTab.map fun p => (DataW.agg [.lit (.string p.1), .lit (.int .i64 p.2)] : DataW H) := by
        have := congrArg Prod.fst hx
        simpa using this
      have two : ∀ i, (hi : i < opTab.length) → cs[i * 2]? = some (.string (ba (opTab[i]'hi).1)) ∧ cs[i * 2 + 1]? = some (.int .i64 (opTab[i]'hi).2) := by
        intro i hi
        have hi13 : i < 13 := hi
        obtain ⟨b, hb, hf⟩ := Lib.mapM_at hm i i (by simp [hi13])
        obtain ⟨ys, n, hn, hbe, hl2, hlen, hfs⟩ := DataW.trod_struct Tryz.underlying124 hf
        have h2 : (xs.map (·.1))[i]? = some b.1 := by simp [hb]
        rw [hxs, List.getElem?_map, List.getElem?_eq_getElem (show i < opTab.length from hi)] at h2
        have h3 := Option.some.inj h2
        match ys, hlen with
        | [y0, y1], _ =>
          have t0 := hfs 0 _ rfl
          have t1 := hfs 1 _ rfl
          obtain ⟨s, e0, hs, _⟩ := DataW.trod_string Tryz.underlying9 t0
          obtain ⟨k, e1, hk, _⟩ := DataW.trod_int Tryz.underlying3 t1
          rw [hbe] at h3
          simp only [List.map_cons, List.map_nil, DataW.agg.injEq, List.cons.injEq, and_true, hs, hk, DataW.lit.injEq, Lit.string.injEq, Lit.int.injEq, true_and] at h3
          have e0 : List.take (Tryz.prog.cellsOf 9) (List.drop 0 (List.take 2 (List.drop (i * 2) cs))) = [.string s] := e0
          have e1 : List.take (Tryz.prog.cellsOf 3) (List.drop 1 (List.take 2 (List.drop (i * 2) cs))) = [.int .i64 k] := e1
          rw [c9] at e0
          rw [c3] at e1
          have a0 : cs[i * 2]? = some (.string s) := by
            have := congrArg (·[0]?) e0
            simpa [List.getElem?_take, List.getElem?_drop] using this
          have a1 : cs[i * 2 + 1]? = some (.int .i64 k) := by
            have := congrArg (·[0]?) e1
            simpa [List.getElem?_take, List.getElem?_drop] using this
          rw [a0, a1, h3.1, h3.2]
          exact ⟨rfl, rfl⟩
      apply List.ext_getElem?
      intro j
      by_cases hj : j < 26
      · obtain ⟨e0, e1⟩ := two (j / 2) (show j / 2 < opTab.length from (by have : opTab.length = 13 := rfl; omega))
        obtain ⟨f0, f1⟩ := flat2 opTab (j / 2) (show j / 2 < opTab.length from (by have : opTab.length = 13 := rfl; omega))
        have ho : opC.toList = opTab.flatMap fun p => [Value.string (ba p.1), .int .i64 p.2] := rfl
        rw [ho]
        rcases (show j = j / 2 * 2 ∨ j = j / 2 * 2 + 1 by omega) with hj2 | hj2
        · rw [hj2, e0, f0]
        · rw [hj2, e1, f1]
      · have : opC.toList.length = 26 := rfl
        rw [List.getElem?_eq_none (by omega), List.getElem?_eq_none (by omega)]
    · cases h
theorem gSp : Tryz.prog.globalNamed "quadrille/lex.spelt" = some 1 := by kernel_rfl
theorem tSp : (Tryz.prog.globals[1]?).map (·.type) = some 156 := by kernel_rfl
theorem sp_is {H : Type} : (Rows.laid_quadrille_lex_spelt : DataW H) = .agg (spelts.map fun p => .lit (.string p)) := by kernel_rfl
theorem cells_of_strs {H : Type} {enc : TypeId × Value → H} {P : Program} {w : World} {base : Nat} {sp : Nat → Bool} {held : Bool} {fuel : Nat} {t e : TypeId} {n : Nat} {cs : List Value} {zs : List (List UInt8)} {p : List MemPlace}
    (ht : P.underlying t = some (.array n e)) (he : P.underlying e = some .string) (hce : P.cellsOf e = 1) (hct : P.cellsOf t = n)
    (h : DataW.trod enc P w base sp held fuel t cs = some (.agg (zs.map fun z => .lit (.string z)), p)) : cs = zs.map fun z => Value.string (ba z) := by
  cases fuel with
  | zero => simp [DataW.trod] at h
  | succ fuel =>
    simp only [DataW.trod, ht, hce, hct, Nat.mul_one] at h
    split at h
    · rename_i hl
      obtain ⟨xs, hm, hx⟩ := Option.map_eq_some_iff.1 h
      have hxs : xs.map (·.1) = zs.map fun z => (DataW.lit (.string z) : DataW H) := by
        have := congrArg Prod.fst hx
        simpa using this
      have hxl : xs.length = n := by simpa using Lib.mapM_length hm
      have hzl : zs.length = n := by
        have := congrArg List.length hxs
        simp at this
        omega
      apply List.ext_getElem?
      intro i
      by_cases hi : i < n
      · obtain ⟨b, hb, hf⟩ := Lib.mapM_at hm i i (by simp [hi])
        obtain ⟨z, hc, rfl, _⟩ := DataW.trod_string he hf
        have h1 : cs[i]? = some (.string z) := by
          have := congrArg (·[0]?) hc
          simpa [List.getElem?_take, List.getElem?_drop] using this
        have h2 : (xs.map (·.1))[i]? = some (DataW.lit (.string z.data.toList) : DataW H) := by simp [hb]
        rw [hxs] at h2
        simp only [List.getElem?_map, Option.map_eq_some_iff, DataW.lit.injEq, Lit.string.injEq] at h2
        obtain ⟨z', hz', e'⟩ := h2
        rw [h1, List.getElem?_map, hz', e']
        rfl
      · rw [List.getElem?_eq_none (by omega), List.getElem?_eq_none (by simp; omega)]
    · cases h
/-- What the row's condition and the world's shape give the walks. -/
theorem lay_of {W : World} (h : laidMetH Tryz.prog laid6 W) (hs : W.ShapedOpen Tryz.prog) : Lay11 W ∧ Lay8 W := by
  rw [MakeChecks.laidMetH_plain _ _ _ (by kernel_rfl)] at h
  obtain ⟨ps, ⟨g0, t0, cs0, f0, p0, q0, hg0, ht0, hv0, hd0, ⟨g1, t1, cs1, f1, p1, q1, hg1, ht1, hv1, hd1, ⟨g2, t2, cs2, f2, p2, q2, hg2, ht2, hv2, hd2, ⟨g3, t3, cs3, f3, p3, q3, hg3, ht3, hv3, hd3, ⟨g4, t4, cs4, f4, p4, q4, hg4, ht4, hv4, hd4, ⟨g5, t5, cs5, f5, p5, q5, hg5, ht5, hv5, hd5, ⟨g6, t6, cs6, f6, p6, q6, hg6, ht6, hv6, hd6, ⟨g7, t7, cs7, f7, p7, q7, hg7, ht7, hv7, hd7, _, _⟩, _⟩, _⟩, _⟩, _⟩, _⟩, _⟩, _⟩, _⟩ := h
  obtain rfl := Option.some.inj (gTab.symm.trans hg2)
  obtain rfl := Option.some.inj (tTab.symm.trans ht2)
  obtain rfl := Option.some.inj (gOp.symm.trans hg7)
  obtain rfl := Option.some.inj (tOp.symm.trans ht7)
  rw [op_is] at hd7
  rw [pow10_is] at hd2
  have hcs := cells_of_ops hd7
  obtain rfl := Option.some.inj (gSp.symm.trans hg6)
  obtain rfl := Option.some.inj (tSp.symm.trans ht6)
  rw [sp_is] at hd6
  have hcs8 := cells_of_strs Tryz.underlying156 Tryz.underlying9 (by kernel_rfl) (by kernel_rfl) hd6
  refine ⟨?_, ?_⟩
  · refine ⟨?_, ?_, ?_⟩
    · unfold Tab Lib.TabIs
      rw [hv2, ← Lib.cells_of_tab Tryz.underlying219 Tryz.underlying199 (by kernel_rfl) (by kernel_rfl) hd2]
    · exact Go.Proofs.cell_of_shapedOpen_int (zero := #[.int .i64 0]) (t := 3) hs (of_decide_eq_true (by kernel_rfl)) (by kernel_rfl) rfl (by kernel_rfl) (by kernel_rfl) Tryz.underlying3
    · unfold World.var? at hv7
      rw [gOp] at hv7
      simp only [Option.bind_some] at hv7
      cases hh : W.heap[0]? with
      | none => rw [hh] at hv7; cases hv7
      | some o =>
        rw [hh] at hv7
        cases o with
        | cells c t fr =>
          simp only [Option.some.injEq] at hv7
          subst hv7
          exact ⟨t, fr, by rw [show c = opC from Array.ext' hcs]⟩
        | _ => cases hv7
  · refine ⟨?_, ?_⟩
    · unfold World.var? at hv6
      rw [gSp] at hv6
      simp only [Option.bind_some] at hv6
      cases hh : W.heap[1]? with
      | none => rw [hh] at hv6; cases hv6
      | some o =>
        rw [hh] at hv6
        cases o with
        | cells c t fr =>
          simp only [Option.some.injEq] at hv6
          subst hv6
          exact ⟨t, fr, by rw [← hcs8]⟩
        | _ => cases hv6
    · exact Go.Proofs.cell_of_shapedOpen_int (zero := #[.int .i64 0]) (t := 3) hs (of_decide_eq_true (by kernel_rfl)) (by kernel_rfl) rfl (by kernel_rfl) (by kernel_rfl) Tryz.underlying3
end Go.Proofs.YtbmnoiddklafkaaGreatDoor.T9
