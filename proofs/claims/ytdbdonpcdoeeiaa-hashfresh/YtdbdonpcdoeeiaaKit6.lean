/- Small facts that the walks of package hash share: what a value's block holds, how it is carried over calls and writings; a row of bytes of one's own. -/
import Derived.Test.YtdbdonpcdoeeiaaRows
import Derived.Test.YtdbdonpcdoeeiaaMath6
import Derived.WalkKit
import Derived.WalkSpells
import Derived.WalkLawsBesides
import Derived.Deep.RegionWith
import Derived.Lib.QuietBelow
import Derived.Lib.AppendStr
import Derived.BigQuiet
import Derived.Below
import Derived.Handy
import Derived.LoopTactic
import Derived.OwnWalk
import Derived.Laws.BytesArg
namespace Go.Proofs.Ytdbdonpcdoeeiaa
open Go.RowKit Go.Sort
set_option linter.unusedVariables false

theorem next {a w w' : World} (h : Below a.heap.size a w) (hb : Below w.heap.size w w') : Below a.heap.size a w' := h.trans (hb.mono h.size)
theorem step {a w : World} (h : Below a.heap.size a w) (o : Obj) : Below a.heap.size a (w.alloc o) := h.alloc h.size o
theorem keep1 {W w1 : World} {b o : Nat} {v : Value} (hb : Below W.heap.size W w1) (h : W.cell? ⟨b, o, none⟩ = some v) : w1.cell? ⟨b, o, none⟩ = some v := by
  rw [hb.cell (p := ⟨b, o, none⟩) (block_lt_of_cell h)]; exact h
/-- What a block's three cells hold; it may be written. -/
def O3 (w : World) (b : Nat) (v0 v1 v2 : Value) : Prop := (w.cell? ⟨b, 0, none⟩ = some v0 ∧ w.cell? ⟨b, 1, none⟩ = some v1 ∧ w.cell? ⟨b, 2, none⟩ = some v2) ∧ ∀ j, w.frozen? ⟨b, j, none⟩ = false
theorem O3.new (W : World) (v0 v1 v2 : Value) (t : TypeId) : O3 (W.alloc (.cells #[v0, v1, v2] t)) W.heap.size v0 v1 v2 := ⟨by refine ⟨?_, ?_, ?_⟩ <;> go_simp, fun j => World.frozen?_alloc_at _ _ _ _ rfl⟩
theorem O3.keep {W w1 : World} {b : Nat} {v0 v1 v2 : Value} (h : O3 W b v0 v1 v2) (hb : Below W.heap.size W w1) : O3 w1 b v0 v1 v2 :=
  ⟨⟨keep1 hb h.1.1, keep1 hb h.1.2.1, keep1 hb h.1.2.2⟩, fun j => (hb.frozen (p := ⟨b, j, none⟩) (show b < _ from block_lt_of_cell h.1.1)).trans (h.2 j)⟩
theorem O3.alloc {W : World} {b : Nat} {v0 v1 v2 : Value} (h : O3 W b v0 v1 v2) (o : Obj) : O3 (W.alloc o) b v0 v1 v2 := h.keep ((Below.refl _ _).alloc (Nat.le_refl _) _)
theorem O3.lt {W : World} {b : Nat} {v0 v1 v2 : Value} (h : O3 W b v0 v1 v2) : b < W.heap.size := block_lt_of_cell h.1.1
abbrev put3 (w : World) (b : Nat) (u0 u1 u2 : Value) : World := ((w.setCell ⟨b, 0, none⟩ u0).setCell ⟨b, 1, none⟩ u1).setCell ⟨b, 2, none⟩ u2
theorem put3_frozen (w : World) (b : Nat) (u0 u1 u2 : Value) (a : Addr) : (put3 w b u0 u1 u2).frozen? a = w.frozen? a := by
  unfold put3
  rw [World.frozen?_setCell, World.frozen?_setCell, World.frozen?_setCell]
theorem put_c {w : World} {b i j : Nat} {v u : Value} (h : w.cell? ⟨b, j, none⟩ = some v) (hn : j ≠ i) : (w.setCell ⟨b, i, none⟩ u).cell? ⟨b, j, none⟩ = some v := (World.cell?_setCell_other _ _ _ _ (by simp [*])).trans h
theorem O3.put {w : World} {b : Nat} {v0 v1 v2 : Value} (h : O3 w b v0 v1 v2) (u0 u1 u2 : Value) : O3 (put3 w b u0 u1 u2) b u0 u1 u2 := by
  obtain ⟨⟨h0, h1, h2⟩, hf⟩ := h
  have s0 := World.cell?_setCell_same w _ u0 h0
  have s1 := World.cell?_setCell_same (w.setCell ⟨b, 0, none⟩ u0) _ u1 (put_c h1 (by decide))
  have s2 := World.cell?_setCell_same ((w.setCell ⟨b, 0, none⟩ u0).setCell ⟨b, 1, none⟩ u1) _ u2 (put_c (put_c h2 (by decide)) (by decide))
  exact ⟨⟨put_c (put_c s0 (by decide)) (by decide), put_c s1 (by decide), s2⟩, fun j => (put3_frozen w b u0 u1 u2 _).trans (hf j)⟩
theorem below_put3 {a w : World} {b : Nat} (h : Below a.heap.size a w) (hb : a.heap.size ≤ b) (u0 u1 u2 : Value) : Below a.heap.size a (put3 w b u0 u1 u2) :=
  ((h.setCell hb u0).setCell hb u1).setCell hb u2
/-- A value: its kind, its number, its text. -/
abbrev vV (k i : Int) (t : ByteArray) : Value := .agg #[.int .i64 k, .int .i64 i, .string t]
abbrev vO (k i : Int) (t : ByteArray) : Obj := .cells #[.int .i64 k, .int .i64 i, .string t] 26
abbrev V3 (w : World) (b : Nat) (k i : Int) (t : ByteArray) : Prop := O3 w b (.int .i64 k) (.int .i64 i) (.string t)
/-- What a call answers, whatever the world, and that it changes nothing that was there. -/
abbrev CallIs (f : Nat) (args : Array Value) (v : Value) : Prop := Hid (∀ w, Calls Try.prog f args w fun e w' => e = .returned v ∧ Below w.heap.size w w')
theorem toList_ne (t : ByteArray) (h : 0 < t.size) : ¬ t.toList = [] := by
  rw [ByteArray.toList_eq]
  intro e
  have := congrArg List.length e
  simp at this
  have : t.size = 0 := by rw [this]; rfl
  omega
theorem full1 {t : ByteArray} (h : ¬ t = no) : ¬ t.toList = [] := toList_ne t (ne_no h)
theorem full2 {t : ByteArray} (h : ¬ t = no) : t.toList.isEmpty = false := by rw [List.isEmpty_eq_false_iff]; exact full1 h
theorem full3 {t : ByteArray} (h : ¬ t = no) : (t.toList == []) = false := by rw [beq_eq_false_iff_ne]; exact full1 h
theorem info_u8 : (Try.prog.info? 5).map (fun i => (i.zero, i.size, i.bytes)) = some (some (.int .u8 0), 1, 1) := by kernel_rfl
/-- Bytes as values. -/
def vs (l : List UInt8) : List Value := l.map fun c => Value.int .u8 (c.toNat : Int)
theorem vs_len (l : List UInt8) : (vs l).length = l.length := by simp [vs]
theorem vs_snoc (l : List UInt8) (c : UInt8) : vs l ++ [.int .u8 (c.toNat : Int)] = vs (l ++ [c]) := by simp [vs]
theorem vs_str (L : List UInt8) (s : ByteArray) : vs L ++ Lib.strCells s = vs (L ++ s.data.toList) := by simp [vs, Lib.strCells]
theorem vs_get (L : List UInt8) (j : Nat) (h : j < L.length) : (vs L)[j]? = some (.int .u8 (L[j].toNat : Int)) := by simp [vs, h]
/-- A row of bytes of one's own: nothing else holds it. -/
def Own (w : World) (B : Nat) (v : Value) (L : List UInt8) : Prop := w.ownsRow B 5 1 v L.length (vs L)
theorem conv_own {w : World} {B n : Nat} {v : Value} {L : List UInt8} (h : w.ownsRow B 5 1 v n (vs L)) : (convert 28 9 v).run Try.prog w = .ok (.string ⟨L.toArray⟩) w := by
  obtain ⟨hl, h⟩ := h
  rw [vs_len, Nat.mul_one] at hl
  rcases h with ⟨rfl, rfl⟩ | ⟨g, cap, cur, rfl, _, hg, _, _, _, ht⟩
  · obtain rfl := List.eq_nil_of_length_eq_zero hl
    exact run_convert_bytes_nil w 28 5 Try.underlying28 Try.underlying5 0 0 9 Try.underlying9
  · have hc := run_convert_bytes_arg (P := Try.prog) w 28 5 Try.underlying28 Try.underlying5 g 0 n cap (L.map fun x => (x.toNat : Int)) (by simpa using hl) (fun i hi => by
      have e : cur.toList[i]? = some (.int .u8 ((L.map fun x => (x.toNat : Int)).getD i 0)) := by
        have h1 : (cur.toList.take (n * 1))[i]? = cur.toList[i]? := by rw [List.getElem?_take]; rw [if_pos (by omega)]
        rw [← h1, ht]
        simp [vs, List.getElem?_map, List.getD, List.getElem?_eq_getElem (show i < L.length by omega)]
      unfold World.cell?
      simp [hg]
      simpa using e) 9 Try.underlying9
    rw [hc]
    congr 2
    unfold strOfNums
    congr 2
    rw [List.map_map]
    conv => rhs; rw [← List.map_id L]
    apply List.map_congr_left
    intro x _
    simp
theorem Own.conv {w : World} {B : Nat} {v : Value} {L : List UInt8} (h : Own w B v L) : (convert 28 9 v).run Try.prog w = .ok (.string ⟨L.toArray⟩) w := conv_own h
theorem Own.keep {w w' : World} {B : Nat} {v : Value} {L : List UInt8} (h : Own w B v L) (hb : Below w.heap.size w w') : Own w' B v L :=
  World.ownsRow.kept (row := none) h ⟨hb.os, hb.tape, hb.output, hb.size, fun k hk _ => hb.block k hk⟩ (by cases v.ownBlock <;> simp)
theorem Own.low {w : World} {B B' : Nat} {v : Value} {L : List UInt8} (h : Own w B v L) (hB : B' ≤ B) : Own w B' v L := by
  refine ⟨h.1, ?_⟩
  rcases h.2 with hn | ⟨g, cap, cur, hv, hb, rest⟩
  · exact .inl hn
  · exact .inr ⟨g, cap, cur, hv, Nat.le_trans hB hb, rest⟩
/-- A row that is not empty: its block, its cells. -/
theorem Own.parts {w : World} {B : Nat} {v : Value} {L : List UInt8} (h : Own w B v L) (hl : 1 ≤ L.length) : ∃ g cap cur, v = .slice (some ⟨g, 0, none⟩) L.length cap ∧ B ≤ g ∧ w.heap[g]? = some (.cells cur 5 (0, 0)) ∧ L.length ≤ cap ∧ cap ≤ maxLen ∧ cur.size = cap ∧
    ∀ j (hj : j < L.length), w.cell? ⟨g, j, none⟩ = some (.int .u8 (L[j].toNat : Int)) := by
  have hh := h
  rcases h.2 with ⟨_, hn⟩ | ⟨g, cap, cur, hv, hb, hg, hc, hm, hs, ht⟩
  · omega
  · refine ⟨g, cap, cur, hv, hb, hg, hc, hm, by omega, fun j hj => ?_⟩
    have := World.ownsRow.cells hh (g := g) (by rw [hv]; rfl) j _ (vs_get L j hj)
    rwa [show (⟨g, 0, none⟩ : Addr).add j = ⟨g, j, none⟩ by unfold Addr.add; split <;> simp_all] at this
/-- What a call answers: bytes in new memory. -/
abbrev CallB (f : Nat) (args : Array Value) (L : List UInt8) : Prop := Hid (∀ w, Calls Try.prog f args w fun e w' => ∃ v, e = .returned v ∧ Own w' w.heap.size v L ∧ Below w.heap.size w w')
end Go.Proofs.Ytdbdonpcdoeeiaa
