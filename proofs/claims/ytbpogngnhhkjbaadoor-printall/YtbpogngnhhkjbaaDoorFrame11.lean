/- What every card's proof of this seat shares: the start that fits; the listed tables and the world's shape give what the walks ask. -/
import Derived.Test.YtbpogngnhhkjbaaDoorRows
import Derived.Test.YtbpogngnhhkjbaaDoorCards
import Derived.Test.YtbpogngnhhkjbaaDoorTie
import Derived.Test.YtbpogngnhhkjbaaDoorPrJ
import Derived.HandedShaped
import Derived.ProofKit
import Derived.OpenShut
import Derived.ShutString
import Derived.ChangeOld
import Derived.Below
import Derived.LaidMore
import Derived.Lay
import Derived.Lib.LaidTab
import Derived.Deep.Slices
import Derived.Stop.Joined
import Derived.SevenTiedAt
namespace Go.Proofs.YtbpogngnhhkjbaaDoor.T9
open Go.ChangeShapes Go.WideShapes Go.ChangeAt Go.RowKit
set_option linter.unusedVariables false

abbrev laid6 : List (String × DataW Unit) := [("math/bits.deBruijn32tab", Rows.laid_math_bits_deBruijn32tab), ("math/bits.deBruijn64tab", Rows.laid_math_bits_deBruijn64tab), ("internal/strconv.uint64pow10", Rows.laid_internal_strconv_uint64pow10), ("unicode/utf8.acceptRanges", Rows.laid_unicode_utf8_acceptRanges), ("quadrille/print.operations", Rows.laid_quadrille_print_operations), ("unicode/utf8.first", Rows.laid_unicode_utf8_first)]
theorem met (os : Os) (args : Array Value) : laidMetH Tryd.prog laid6 ((World.laidAll Tryd.prog os laid6).forCall (fun _ _ => 0) ⟨#[], args, []⟩).memory := by
  rw [MakeChecks.laidMetH_plain _ _ _ (by kernel_rfl)]
  exact laidMet_laidAll _ (by kernel_rfl) (by kernel_rfl)
theorem tTab : (Tryd.prog.globals[1]?).map (·.type) = some 110 := by kernel_rfl
theorem pow10_is {H : Type} : (Rows.laid_internal_strconv_uint64pow10 : DataW H) = Lib.tabData .u64 Lib.pow10Tab := by kernel_rfl
theorem gOp : Tryd.prog.globalNamed "quadrille/print.operations" = some 0 := by kernel_rfl
theorem tOp : (Tryd.prog.globals[0]?).map (·.type) = some 68 := by kernel_rfl
theorem op_is {H : Type} : (Rows.laid_quadrille_print_operations : DataW H) = .agg (opTab.map fun p => .agg [.lit (.string p.1), .lit (.int .i64 p.2)]) := by kernel_rfl
theorem flat2 : ∀ (l : List (List UInt8 × Int)) (i : Nat) (hi : i < l.length), (l.flatMap fun p => [Value.string (ba p.1), .int .i64 p.2])[i * 2]? = some (.string (ba l[i].1)) ∧ (l.flatMap fun p => [Value.string (ba p.1), .int .i64 p.2])[i * 2 + 1]? = some (.int .i64 l[i].2)
  | [], i, hi => absurd hi (Nat.not_lt_zero i)
  | a :: r, 0, _ => ⟨rfl, rfl⟩
  | a :: r, i + 1, hi => by
    have := flat2 r i (by simpa using hi)
    rw [show (i + 1) * 2 = i * 2 + 1 + 1 by omega]
    simpa only [List.flatMap_cons, List.cons_append, List.nil_append, List.getElem?_cons_succ, List.getElem_cons_succ] using this
theorem cells_of_ops {H : Type} {enc : TypeId × Value → H} {w : World} {base : Nat} {sp : Nat → Bool} {held : Bool} {fuel : Nat} {cs : List Value} {p : List MemPlace}
    (h : DataW.trod enc Tryd.prog w base sp held fuel 68 cs = some (.agg (opTab.map fun p => .agg [.lit (.string p.1), .lit (.int .i64 p.2)]), p)) : cs = opC.toList := by
  have hce : Tryd.prog.cellsOf 67 = 2 := by kernel_rfl
  have hct : Tryd.prog.cellsOf 68 = 26 := by kernel_rfl
  have c9 : Tryd.prog.cellsOf 9 = 1 := by kernel_rfl
  have c3 : Tryd.prog.cellsOf 3 = 1 := by kernel_rfl
  cases fuel with
  | zero => simp [DataW.trod] at h
  | succ fuel =>
    simp only [DataW.trod, Tryd.underlying68, hce, hct] at h
    split at h
    · rename_i hl
      obtain ⟨xs, hm, hx⟩ := Option.map_eq_some_iff.1 h
      have hxs : xs.map (·.1) = opTab.map fun p => (DataW.agg [.lit (.string p.1), .lit (.int .i64 p.2)] : DataW H) := by
        have := congrArg Prod.fst hx
        simpa using this
      have two : ∀ i, (hi : i < opTab.length) → cs[i * 2]? = some (.string (ba (opTab[i]'hi).1)) ∧ cs[i * 2 + 1]? = some (.int .i64 (opTab[i]'hi).2) := by
        intro i hi
        have hi13 : i < 13 := hi
        obtain ⟨b, hb, hf⟩ := Lib.mapM_at hm i i (by simp [hi13])
        obtain ⟨ys, n, hn, hbe, hl2, hlen, hfs⟩ := DataW.trod_struct Tryd.underlying67 hf
        have h2 : (xs.map (·.1))[i]? = some b.1 := by simp [hb]
        rw [hxs, List.getElem?_map, List.getElem?_eq_getElem (show i < opTab.length from hi)] at h2
        have h3 := Option.some.inj h2
        match ys, hlen with
        | [y0, y1], _ =>
          have t0 := hfs 0 _ rfl
          have t1 := hfs 1 _ rfl
          obtain ⟨s, e0, hs, _⟩ := DataW.trod_string Tryd.underlying9 t0
          obtain ⟨k, e1, hk, _⟩ := DataW.trod_int Tryd.underlying3 t1
          rw [hbe] at h3
          simp only [List.map_cons, List.map_nil, DataW.agg.injEq, List.cons.injEq, and_true, hs, hk, DataW.lit.injEq, Lit.string.injEq, Lit.int.injEq, true_and] at h3
          have e0 : List.take (Tryd.prog.cellsOf 9) (List.drop 0 (List.take 2 (List.drop (i * 2) cs))) = [.string s] := e0
          have e1 : List.take (Tryd.prog.cellsOf 3) (List.drop 1 (List.take 2 (List.drop (i * 2) cs))) = [.int .i64 k] := e1
          rw [c9] at e0
          rw [c3] at e1
          have a0 : cs[i * 2]? = some (.string s) := by
            have := congrArg (·[0]?) e0
            simpa [List.getElem?_take, List.getElem?_drop] using this
          have a1 : cs[i * 2 + 1]? = some (.int .i64 k) := by
            have := congrArg (·[0]?) e1
            simpa [List.getElem?_take, List.getElem?_drop] using this
          rw [a0, a1, h3.1, h3.2]
          exact ⟨rfl, rfl⟩
      apply List.ext_getElem?
      intro j
      by_cases hj : j < 26
      · obtain ⟨e0, e1⟩ := two (j / 2) (show j / 2 < opTab.length from (by have : opTab.length = 13 := rfl; omega))
        obtain ⟨f0, f1⟩ := flat2 opTab (j / 2) (show j / 2 < opTab.length from (by have : opTab.length = 13 := rfl; omega))
        have ho : opC.toList = opTab.flatMap fun p => [Value.string (ba p.1), .int .i64 p.2] := rfl
        rw [ho]
        rcases (show j = j / 2 * 2 ∨ j = j / 2 * 2 + 1 by omega) with hj2 | hj2
        · rw [hj2, e0, f0]
        · rw [hj2, e1, f1]
      · have : opC.toList.length = 26 := rfl
        rw [List.getElem?_eq_none (by omega), List.getElem?_eq_none (by omega)]
    · cases h
/-- What the row's condition and the world's shape give the walks. -/
theorem lay_of {W : World} (h : laidMetH Tryd.prog laid6 W) (hs : W.ShapedOpen Tryd.prog) : Lay11 W := by
  rw [MakeChecks.laidMetH_plain _ _ _ (by kernel_rfl)] at h
  obtain ⟨ps, ⟨g0, t0, cs0, f0, p0, q0, hg0, ht0, hv0, hd0, ⟨g1, t1, cs1, f1, p1, q1, hg1, ht1, hv1, hd1, ⟨g2, t2, cs2, f2, p2, q2, hg2, ht2, hv2, hd2, ⟨g3, t3, cs3, f3, p3, q3, hg3, ht3, hv3, hd3, ⟨g4, t4, cs4, f4, p4, q4, hg4, ht4, hv4, hd4, _, _⟩, _⟩, _⟩, _⟩, _⟩, _⟩ := h
  obtain rfl := Option.some.inj (gTab.symm.trans hg2)
  obtain rfl := Option.some.inj (tTab.symm.trans ht2)
  obtain rfl := Option.some.inj (gOp.symm.trans hg4)
  obtain rfl := Option.some.inj (tOp.symm.trans ht4)
  rw [op_is] at hd4
  rw [pow10_is] at hd2
  have hcs := cells_of_ops hd4
  refine ⟨?_, ?_, ?_⟩
  · unfold Tab Lib.TabIs
    rw [hv2, ← Lib.cells_of_tab Tryd.underlying110 Tryd.underlying71 (by kernel_rfl) (by kernel_rfl) hd2]
  · exact Go.Proofs.cell_of_shapedOpen_int (zero := #[.int .i64 0]) (t := 3) hs (of_decide_eq_true (by kernel_rfl)) (by kernel_rfl) rfl (by kernel_rfl) (by kernel_rfl) Tryd.underlying3
  · unfold World.var? at hv4
    rw [gOp] at hv4
    simp only [Option.bind_some] at hv4
    cases hh : W.heap[0]? with
    | none => rw [hh] at hv4; cases hv4
    | some o =>
      rw [hh] at hv4
      cases o with
      | cells c t fr =>
        simp only [Option.some.injEq] at hv4
        subst hv4
        exact ⟨t, fr, by rw [show c = opC from Array.ext' hcs]⟩
      | _ => cases hv4
end Go.Proofs.YtbpogngnhhkjbaaDoor.T9
