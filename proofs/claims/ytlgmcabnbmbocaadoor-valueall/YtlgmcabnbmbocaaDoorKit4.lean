/- Small facts that the walks of package value share: what a value's block holds, how it is carried over calls and writings; which values there are. -/
import Derived.Test.YtlgmcabnbmbocaaDoorRows
import Derived.Test.YtlgmcabnbmbocaaDoorBegun
import Derived.Test.YtlgmcabnbmbocaaDoorTextMath
import Derived.Test.YtlgmcabnbmbocaaDoorQTail
import Derived.WalkKit
import Derived.WalkSpells
import Derived.WalkLawsBesides
import Derived.Deep.RegionWith
import Derived.Lib.QuietBelow
import Derived.BigQuiet
import Derived.Below
import Derived.Handy
namespace Go.Proofs.YtlgmcabnbmbocaaDoor
open Go.RowKit Go.Sort
set_option linter.unusedVariables false

theorem next {a w w' : World} (h : Below a.heap.size a w) (hb : Below w.heap.size w w') : Below a.heap.size a w' := h.trans (hb.mono h.size)
theorem step {a w : World} (h : Below a.heap.size a w) (o : Obj) : Below a.heap.size a (w.alloc o) := h.alloc h.size o
theorem keep1 {W w1 : World} {b o : Nat} {v : Value} (hb : Below W.heap.size W w1) (h : W.cell? ⟨b, o, none⟩ = some v) : w1.cell? ⟨b, o, none⟩ = some v := by
  rw [hb.cell (p := ⟨b, o, none⟩) (block_lt_of_cell h)]; exact h
/-- What a block's three cells hold; it may be written. -/
def O3 (w : World) (b : Nat) (v0 v1 v2 : Value) : Prop := (w.cell? ⟨b, 0, none⟩ = some v0 ∧ w.cell? ⟨b, 1, none⟩ = some v1 ∧ w.cell? ⟨b, 2, none⟩ = some v2) ∧ ∀ j, w.frozen? ⟨b, j, none⟩ = false
theorem O3.new (W : World) (v0 v1 v2 : Value) (t : TypeId) : O3 (W.alloc (.cells #[v0, v1, v2] t)) W.heap.size v0 v1 v2 := ⟨by refine ⟨?_, ?_, ?_⟩ <;> go_simp, fun j => World.frozen?_alloc_at _ _ _ _ rfl⟩
theorem O3.keep {W w1 : World} {b : Nat} {v0 v1 v2 : Value} (h : O3 W b v0 v1 v2) (hb : Below W.heap.size W w1) : O3 w1 b v0 v1 v2 :=
  ⟨⟨keep1 hb h.1.1, keep1 hb h.1.2.1, keep1 hb h.1.2.2⟩, fun j => (hb.frozen (p := ⟨b, j, none⟩) (show b < _ from block_lt_of_cell h.1.1)).trans (h.2 j)⟩
theorem O3.alloc {W : World} {b : Nat} {v0 v1 v2 : Value} (h : O3 W b v0 v1 v2) (o : Obj) : O3 (W.alloc o) b v0 v1 v2 := h.keep ((Below.refl _ _).alloc (Nat.le_refl _) _)
theorem O3.lt {W : World} {b : Nat} {v0 v1 v2 : Value} (h : O3 W b v0 v1 v2) : b < W.heap.size := block_lt_of_cell h.1.1
/-- A value written into a block. -/
abbrev put3 (w : World) (b : Nat) (u0 u1 u2 : Value) : World := ((w.setCell ⟨b, 0, none⟩ u0).setCell ⟨b, 1, none⟩ u1).setCell ⟨b, 2, none⟩ u2
theorem put3_frozen (w : World) (b : Nat) (u0 u1 u2 : Value) (a : Addr) : (put3 w b u0 u1 u2).frozen? a = w.frozen? a := by
  unfold put3
  rw [World.frozen?_setCell, World.frozen?_setCell, World.frozen?_setCell]
theorem put3_other (w : World) (b : Nat) (u0 u1 u2 : Value) (a o : Nat) (h : a ≠ b) : (put3 w b u0 u1 u2).cell? ⟨a, o, none⟩ = w.cell? ⟨a, o, none⟩ := by
  unfold put3
  rw [World.cell?_setCell_other _ _ _ _ (by simp [*]), World.cell?_setCell_other _ _ _ _ (by simp [*]), World.cell?_setCell_other _ _ _ _ (by simp [*])]
theorem O3.other {w : World} {a b : Nat} {v0 v1 v2 u0 u1 u2 : Value} (h : O3 w a v0 v1 v2) (hn : a ≠ b) : O3 (put3 w b u0 u1 u2) a v0 v1 v2 :=
  ⟨⟨(put3_other w b u0 u1 u2 a 0 hn).trans h.1.1, (put3_other w b u0 u1 u2 a 1 hn).trans h.1.2.1, (put3_other w b u0 u1 u2 a 2 hn).trans h.1.2.2⟩, fun j => (put3_frozen w b u0 u1 u2 _).trans (h.2 j)⟩
theorem put_c {w : World} {b i j : Nat} {v u : Value} (h : w.cell? ⟨b, j, none⟩ = some v) (hn : j ≠ i) : (w.setCell ⟨b, i, none⟩ u).cell? ⟨b, j, none⟩ = some v := (World.cell?_setCell_other _ _ _ _ (by simp [*])).trans h
theorem O3.put {w : World} {b : Nat} {v0 v1 v2 : Value} (h : O3 w b v0 v1 v2) (u0 u1 u2 : Value) : O3 (put3 w b u0 u1 u2) b u0 u1 u2 := by
  obtain ⟨⟨h0, h1, h2⟩, hf⟩ := h
  have s0 := World.cell?_setCell_same w _ u0 h0
  have s1 := World.cell?_setCell_same (w.setCell ⟨b, 0, none⟩ u0) _ u1 (put_c h1 (by decide))
  have s2 := World.cell?_setCell_same ((w.setCell ⟨b, 0, none⟩ u0).setCell ⟨b, 1, none⟩ u1) _ u2 (put_c (put_c h2 (by decide)) (by decide))
  exact ⟨⟨put_c (put_c s0 (by decide)) (by decide), put_c s1 (by decide), s2⟩, fun j => (put3_frozen w b u0 u1 u2 _).trans (hf j)⟩
theorem below_put3 {a w : World} {b : Nat} (h : Below a.heap.size a w) (hb : a.heap.size ≤ b) (u0 u1 u2 : Value) : Below a.heap.size a (put3 w b u0 u1 u2) :=
  ((h.setCell hb u0).setCell hb u1).setCell hb u2
/-- A value: its kind, its number, its text. -/
abbrev vV (k i : Int) (t : ByteArray) : Value := .agg #[.int .i64 k, .int .i64 i, .string t]
abbrev vO (k i : Int) (t : ByteArray) : Obj := .cells #[.int .i64 k, .int .i64 i, .string t] 26
abbrev no : ByteArray := { data := #[] }
abbrev V3 (w : World) (b : Nat) (k i : Int) (t : ByteArray) : Prop := O3 w b (.int .i64 k) (.int .i64 i) (.string t)
/-- What a call answers, whatever the world, and that it changes nothing that was there; CallT: where strconv's table lies. -/
abbrev CallIs (f : Nat) (args : Array Value) (v : Value) : Prop := Hid (∀ w, Calls Tryd.prog f args w fun e w' => e = .returned v ∧ Below w.heap.size w w')
abbrev CallT (f : Nat) (args : Array Value) (v : Value) : Prop := Hid (∀ w, Tab w → Calls Tryd.prog f args w fun e w' => e = .returned v ∧ Below w.heap.size w w')
theorem CallIs.t {f : Nat} {args : Array Value} {v : Value} (h : CallIs f args v) : CallT f args v := fun w _ => h w
/-- Is there the value? -/
def Good (k i : Int) (t : ByteArray) : Prop := (k = 0 ∧ i = 0 ∧ t = no) ∨ (k = 1 ∧ t = no) ∨ (k = 2 ∧ (i = 0 ∨ i = 1) ∧ t = no) ∨ (k = 3 ∧ i = 0 ∧ t.size ≤ 32767) ∨ (k = 4 ∧ (1 ≤ i ∧ i ≤ 6) ∧ t = no)
theorem no_size : no.size = 0 := rfl
theorem no_of {t : ByteArray} (h : t.size = 0) : t = no := by
  obtain ⟨⟨l⟩⟩ := t
  cases l with
  | nil => rfl
  | cons c r => simp [ByteArray.size] at h
theorem ne_no {t : ByteArray} (h : ¬ t = no) : 0 < t.size := by
  apply Classical.byContradiction
  intro hc
  exact h (no_of (by omega))
theorem full1 {t : ByteArray} (h : ¬ t = no) : ¬ t.toList = [] := toList_ne t (ne_no h)
theorem full2 {t : ByteArray} (h : ¬ t = no) : t.toList.isEmpty = false := isEmpty_ne t (ne_no h)
theorem full3 {t : ByteArray} (h : ¬ t = no) : (t.toList == []) = false := by rw [beq_eq_false_iff_ne]; exact full1 h
end Go.Proofs.YtlgmcabnbmbocaaDoor
