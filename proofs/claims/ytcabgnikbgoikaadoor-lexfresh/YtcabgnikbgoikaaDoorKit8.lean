/- Small facts that the walks of package lex and of the document's own cutting share: words as values, rows of words, blocks; what the world must hold; how contracts are carried. -/
import Derived.Test.YtcabgnikbgoikaaDoorMach8
import Derived.Test.YtcabgnikbgoikaaDoorShelf
import Derived.Test.YtcabgnikbgoikaaDoorRead
import Derived.Test.YtcabgnikbgoikaaDoorReadRef
import Derived.Test.YtcabgnikbgoikaaDoorQTail
import Derived.WalkKit
import Derived.WalkSpells
import Derived.WalkLawsBesides
import Derived.Deep.RegionWith
import Derived.Lib.QuietBelow
import Derived.Lib.ReplaceLaws
import Derived.BigQuiet
import Derived.Below
import Derived.Handy
import Derived.LoopTactic
import Derived.OwnWalk
import Derived.Laws.BytesArg
import Derived.Laws.RangeAny
import Derived.Laws.OwnMore
namespace Go.Proofs.YtcabgnikbgoikaaDoor
open Go.RowKit Go.Sort
set_option linter.unusedVariables false

abbrev no : ByteArray := { data := #[] }
/-- A list of bytes as a text. -/
abbrev ba (l : List UInt8) : ByteArray := ⟨l.toArray⟩
theorem ba_list (l : List UInt8) : (ba l).data.toList = l := by simp
theorem ba_size (l : List UInt8) : (ba l).size = l.length := by rw [Lib.size_eq, ba_list]
theorem ba_of (s : ByteArray) : ba s.data.toList = s := rfl
theorem ba_inj {a b : List UInt8} (h : ba a = ba b) : a = b := by have := congrArg (fun s => s.data.toList) h; simpa using this
theorem ba_ext (s : ByteArray) (a b : Nat) (h : b ≤ s.size) : s.extract a b = ba (slc s.data.toList a b) := by
  apply ByteArray.ext
  apply Array.ext'
  rw [Lib.extract_data]
  simp [slc]
theorem no_ba : (no : ByteArray) = ba [] := rfl
/-- A word as a value. -/
abbrev wdV (k : Int) (t : ByteArray) (i : Int) : Value := .agg #[.int .i64 k, .string t, .int .i64 i]
abbrev wdO (k : Int) (t : ByteArray) (i : Int) : Obj := .cells #[.int .i64 k, .string t, .int .i64 i] 32
/-- What wordOf and its like answer. -/
def tokV : Tok → Value
  | .bad e => .tuple #[wdV 0 no 0, .int .i64 e]
  | .ok k t n => .tuple #[wdV k (ba t) 0, .int .i64 0]
/-- The block holds these cells. -/
def Blk (W : World) (B : Nat) (vs : Array Value) (t : TypeId) : Prop := W.heap[B]? = some (.cells vs t)
theorem Blk.lt {W : World} {B : Nat} {vs : Array Value} {t : TypeId} (h : Blk W B vs t) : B < W.heap.size := (Array.getElem?_eq_some_iff.1 h).1
theorem Blk.new (W : World) (vs : Array Value) (t : TypeId) : Blk (W.alloc (.cells vs t)) W.heap.size vs t := by show (W.heap.push _)[W.heap.size]? = _; simp
theorem Blk.kept {W W' : World} {row : Option Nat} {B : Nat} {vs : Array Value} {t : TypeId} (h : Blk W B vs t) (hg : W.grownBy W' row) (hne : some B ≠ row) : Blk W' B vs t := (hg.block B h.lt hne).trans h
theorem Blk.alloc {W : World} {B : Nat} {vs : Array Value} {t : TypeId} (h : Blk W B vs t) (o : Obj) : Blk (W.alloc o) B vs t := h.kept (World.grownBy_alloc W o none) (by simp)
theorem Blk.keep {W W' : World} {B : Nat} {vs : Array Value} {t : TypeId} (h : Blk W B vs t) (hb : Below W.heap.size W W') : Blk W' B vs t := (hb.block B h.lt).trans h
theorem Blk.fr {W : World} {B : Nat} {vs : Array Value} {t : TypeId} (h : Blk W B vs t) (j : Nat) : W.frozen? ⟨B, j, none⟩ = false := by simp [World.frozen?, show W.heap[B]? = _ from h]
theorem Blk.at' {W : World} {B : Nat} {vs : Array Value} {t : TypeId} (h : Blk W B vs t) (j : Nat) : W.cell? ⟨B, j, none⟩ = vs[j]? := by simp [World.cell?, show W.heap[B]? = _ from h]
theorem Blk.set {W : World} {B : Nat} {vs : Array Value} {t : TypeId} (h : Blk W B vs t) (j : Nat) (u : Value) : Blk (W.setCell ⟨B, j, none⟩ u) B (vs.setIfInBounds j u) t := by
  have hlt := h.lt
  have hget := (Array.getElem?_eq_some_iff.1 h).2
  unfold Blk World.setCell
  rw [Array.getElem?_eq_getElem (by simpa using hlt), Array.getElem_modify, if_pos rfl, hget]
  rfl
theorem grown_set (w : World) (g k : Nat) (u : Value) : w.grownBy (w.setCell ⟨g, k, none⟩ u) (some g) :=
  ⟨rfl, rfl, rfl, by simp, fun j _ hj => Below.heap_setCell _ _ _ j (fun e => hj (by rw [e]))⟩
theorem grown_trans {w w' w'' : World} {row : Option Nat} (h : w.grownBy w' row) (h' : w'.grownBy w'' row) : w.grownBy w'' row :=
  ⟨h'.os.trans h.os, h'.tape.trans h.tape, h'.output.trans h.output, Nat.le_trans h.size h'.size, fun k hk hne => (h'.block k (Nat.lt_of_lt_of_le hk h.size) hne).trans (h.block k hk hne)⟩
theorem grown_of {w w' : World} (hb : Below w.heap.size w w') (row : Option Nat) : w.grownBy w' row := ⟨hb.os, hb.tape, hb.output, hb.size, fun k hk _ => hb.block k hk⟩
theorem iter_below (w : World) (s : ByteArray) (p : Nat) : Below w.heap.size w (w.iter s p) := (Below.refl _ _).alloc (Nat.le_refl _) _
/-- A word written into a block. -/
abbrev put3 (w : World) (b : Nat) (u0 u1 u2 : Value) : World := ((w.setCell ⟨b, 0, none⟩ u0).setCell ⟨b, 1, none⟩ u1).setCell ⟨b, 2, none⟩ u2
theorem Blk.put3 {w : World} {b : Nat} {v0 v1 v2 : Value} {t : TypeId} (h : Blk w b #[v0, v1, v2] t) (u0 u1 u2 : Value) : Blk (put3 w b u0 u1 u2) b #[u0, u1, u2] t := ((h.set 0 u0).set 1 u1).set 2 u2
theorem below_put3 {B : Nat} {a w : World} {b : Nat} (h : Below B a w) (hb : B ≤ b) (u0 u1 u2 : Value) : Below B a (put3 w b u0 u1 u2) := ((h.setCell (p := ⟨b, 0, none⟩) hb u0).setCell (p := ⟨b, 1, none⟩) hb u1).setCell (p := ⟨b, 2, none⟩) hb u2
theorem grown_put3 (w : World) (b : Nat) (u0 u1 u2 : Value) : w.grownBy (put3 w b u0 u1 u2) (some b) := grown_trans (grown_trans (grown_set _ _ _ _) (grown_set _ _ _ _)) (grown_set _ _ _ _)
theorem Blk.cells3 {w : World} {b : Nat} {v0 v1 v2 : Value} {t : TypeId} (h : Blk w b #[v0, v1, v2] t) : w.cell? ⟨b, 0, none⟩ = some v0 ∧ w.cell? ⟨b, 1, none⟩ = some v1 ∧ w.cell? ⟨b, 2, none⟩ = some v2 := ⟨h.at' 0, h.at' 1, h.at' 2⟩
/-- What the world must hold: the table of words that are spelt in one way, and some number in MaxLen. -/
structure Lay8 (w : World) : Prop where
  sp : ∃ t fr, w.heap[0]? = some (.cells (spelts.map fun p => Value.string (ba p)).toArray t fr)
  mx : ∃ m, w.cell? ⟨2, 0, none⟩ = some (.int .i64 m)
theorem Lay8.keep {W w1 : World} (h : Lay8 W) (hb : Below W.heap.size W w1) : Lay8 w1 := ⟨by obtain ⟨t, fr, e⟩ := h.sp; exact ⟨t, fr, (hb.block _ (Array.getElem?_eq_some_iff.1 e).1).trans e⟩, by obtain ⟨m, e⟩ := h.mx; exact ⟨m, keep1 hb e⟩⟩
theorem Lay8.alloc {W : World} (h : Lay8 W) (o : Obj) : Lay8 (W.alloc o) := h.keep ((Below.refl _ _).alloc (Nat.le_refl _) _)
/-- What a call answers, whatever the world, and that it changes nothing that was there; CallL: where the table is laid. -/
abbrev CallIs (f : Nat) (args : Array Value) (v : Value) : Prop := Hid (∀ w, Calls Tryd.prog f args w fun e w' => e = .returned v ∧ Below w.heap.size w w')
abbrev CallL (f : Nat) (args : Array Value) (v : Value) : Prop := Hid (∀ w, Lay8 w → Calls Tryd.prog f args w fun e w' => e = .returned v ∧ Below w.heap.size w w')
/-- The same, and the world is as it was. -/
abbrev CallS (f : Nat) (args : Array Value) (v : Value) : Prop := Hid (∀ w, Calls Tryd.prog f args w fun e w' => e = .returned v ∧ w' = w)
theorem CallIs.l {f : Nat} {args : Array Value} {v : Value} (h : CallIs f args v) : CallL f args v := fun w _ => h w
end Go.Proofs.YtcabgnikbgoikaaDoor
