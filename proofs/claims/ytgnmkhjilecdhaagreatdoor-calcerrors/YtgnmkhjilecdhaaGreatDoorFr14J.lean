/- What the cards of stage 14 share: the start that fits; the tables that the walks read. What every law's proof of this seat shares: a value that is handed in: what its reading says of it. -/
import Derived.Test.YtgnmkhjilecdhaaGreatDoorBgnJ
import Derived.Test.YtgnmkhjilecdhaaGreatDoorSc14
import Derived.HandedShaped
import Derived.Lay
import Derived.Test.YtgnmkhjilecdhaaGreatDoorK4J
import Derived.ProofKit
import Derived.OpenShut
import Derived.ChangeOld
import Derived.Below
namespace Go.Proofs.YtgnmkhjilecdhaaGreatDoor
open Go.ChangeShapes Go.WideShapes Go.ChangeAt Go.RowKit
set_option linter.unusedVariables false

abbrev laid5 : List (String × DataW Unit) := [("math/bits.deBruijn32tab", Rows.laid_math_bits_deBruijn32tab), ("math/bits.deBruijn64tab", Rows.laid_math_bits_deBruijn64tab), ("internal/strconv.uint64pow10", Rows.laid_internal_strconv_uint64pow10), ("unicode/utf8.acceptRanges", Rows.laid_unicode_utf8_acceptRanges), ("unicode/utf8.first", Rows.laid_unicode_utf8_first)]
theorem met5 (os : Os) (args : Array Value) : laidMetH Tryz.prog laid5 ((World.laidAll Tryz.prog os laid5).forCall (fun _ _ => 0) ⟨#[], args, []⟩).memory := by
  rw [MakeChecks.laidMetH_plain _ _ _ (by kernel_rfl)]
  exact laidMet_laidAll _ (by kernel_rfl) (by kernel_rfl)
theorem tab_of_laid5 {W : World} (h : laidMetH Tryz.prog laid5 W) : Tab W := by
  rw [MakeChecks.laidMetH_plain _ _ _ (by kernel_rfl)] at h
  obtain ⟨ps, ⟨g0, t0, cs0, f0, p0, q0, hg0, ht0, hv0, hd0, ⟨g1, t1, cs1, f1, p1, q1, hg1, ht1, hv1, hd1, ⟨g2, t2, cs2, f2, p2, q2, hg2, ht2, hv2, hd2, _, _⟩, _⟩, _⟩, _⟩ := h
  obtain rfl := Option.some.inj (gTab.symm.trans hg2)
  obtain rfl := Option.some.inj (tTab.symm.trans ht2)
  unfold Tab Lib.TabIs
  rw [pow10_is] at hd2
  rw [hv2, ← Lib.cells_of_tab Tryz.underlying144 Tryz.underlying86 (by kernel_rfl) (by kernel_rfl) hd2]
theorem tb_of {W : World} (h : W.ShapedOpen Tryz.prog) (hL : laidMetH Tryz.prog laid5 W) : Tb W := ⟨tab_of_laid5 hL, Tryz.laysM143.s1_3 W h⟩
end Go.Proofs.YtgnmkhjilecdhaaGreatDoor
namespace Go.Proofs.YtgnmkhjilecdhaaGreatDoor
open Go.ChangeShapes Go.WideShapes Go.ChangeAt Go.RowKit
set_option linter.unusedVariables false
set_option maxRecDepth 100000

theorem cellsValue : Tryz.prog.cellsOf 30 = 3 := by kernel_rfl
theorem cellsI : Tryz.prog.cellsOf 3 = 1 := by kernel_rfl
theorem cellsL : Tryz.prog.cellsOf 2 = 1 := by kernel_rfl
theorem cellsS : Tryz.prog.cellsOf 9 = 1 := by kernel_rfl
theorem agg_of {v : Value} {cs : List Value} (h : v.cells.toList = cs) (hl : cs.length ≠ 1) : v = .agg cs.toArray := by
  cases v
  case agg xs => simp only [Value.cells] at h; rw [← h]
  all_goals (simp only [Value.cells] at h; subst h; simp at hl)
theorem value_cells {H : Type} {enc : TypeId × Value → H} {w : World} {base : Nat} {spare : Nat → Bool} {held : Bool} {fuel : Nat} {cs : List Value} {x : DataW H × List MemPlace} (hf : DataW.trod enc Tryz.prog w base spare held fuel 30 cs = some x) :
    ∃ k i t, cs = [.int .i64 k, .int .i64 i, .string t] ∧ -9223372036854775808 ≤ i ∧ i ≤ 9223372036854775807 ∧ t.size ≤ maxLen := by
  obtain ⟨xs, n, _, _, hl, hlen, hfs⟩ := DataW.trod_struct Tryz.underlying30 hf
  rw [cellsValue] at hl
  obtain ⟨c0, c1, c2, rfl⟩ : ∃ c0 c1 c2, cs = [c0, c1, c2] := by
    match cs, hl with
    | [c0, c1, c2], _ => exact ⟨c0, c1, c2, rfl⟩
  match xs, hlen with
  | [y0, y1, y2], _ =>
    have t0 := hfs 0 _ rfl
    have t1 := hfs 1 _ rfl
    have t2 := hfs 2 _ rfl
    obtain ⟨k, e0, _, _⟩ := DataW.trod_int Tryz.underlying3 t0
    obtain ⟨i, e1, _, w1⟩ := DataW.trod_int Tryz.underlying2 t1
    obtain ⟨t, e2, _, w2⟩ := DataW.trod_string Tryz.underlying9 t2
    simp [cellsI] at e0
    simp [cellsL] at e1
    simp [cellsS] at e2
    subst e0 e1 e2
    exact ⟨k, i, t, rfl, (wf_i64 w1).1, (wf_i64 w1).2, w2⟩
theorem open_val {H : Type} {enc : TypeId × Value → H} {w : World} {base : Nat} {spare : Nat → Bool} {held : Bool} {v : Value} {d : DataW H} {ps : List MemPlace} (h : DataW.Trod enc Tryz.prog w base spare held 30 v d ps) :
    ∃ k i t, v = vV k i t ∧ -9223372036854775808 ≤ i ∧ i ≤ 9223372036854775807 ∧ t.size ≤ maxLen := by
  obtain ⟨fuel, hf⟩ := h
  obtain ⟨k, i, t, hc, h1, h2, h3⟩ := value_cells hf
  exact ⟨k, i, t, agg_of hc (by simp), h1, h2, h3⟩
end Go.Proofs.YtgnmkhjilecdhaaGreatDoor
