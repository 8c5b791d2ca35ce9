/- print's builder: what is in memory while a text is laid into it. -/
import Derived.Test.YtnfoknifofglbaaDoorPrt11
import Derived.Test.YtnfoknifofglbaaDoorBk11
namespace Go.Proofs.YtnfoknifofglbaaDoor.T9
open Go.RowKit Go.Sort
set_option linter.unusedVariables false

abbrev tB : TypeId := 50
abbrev tU : TypeId := 5
theorem atF_keep {B b : Nat} {p : Value} {bs : List Value} {w w' : World} (h : Lib.BuilderAtF tB tU B b p bs w) (hb : Below w.heap.size w w') : Lib.BuilderAtF tB tU B b p bs w' := by
  obtain ⟨h0, v, hbk, hown, hne⟩ := h
  have hlt : b < w.heap.size := (Array.getElem?_eq_some_iff.1 hbk).1
  refine ⟨h0, v, (hb.block b hlt).trans hbk, ⟨hown.1, ?_⟩, hne⟩
  rcases hown.2 with hn | ⟨g, cap, cur, fz, hv, hbg, hg, rest⟩
  · exact .inl hn
  · exact .inr ⟨g, cap, cur, fz, hv, hbg, (hb.block g (Array.getElem?_eq_some_iff.1 hg).1).trans hg, rest⟩
theorem isF_keep {B b : Nat} {bs : List Value} {w w' : World} (h : Lib.IsBuilderF tB tU B b bs w) (hb : Below w.heap.size w w') : Lib.IsBuilderF tB tU B b bs w' :=
  h.elim (fun x => .inl (atF_keep x hb)) (fun x => .inr (atF_keep x hb))
theorem isF_lt {B b : Nat} {bs : List Value} {w : World} (h : Lib.IsBuilderF tB tU B b bs w) : B ≤ b ∧ b < w.heap.size := by
  rcases h with ⟨h0, v, hbk, _⟩ | ⟨h0, v, hbk, _⟩
  · exact ⟨h0, (Array.getElem?_eq_some_iff.1 hbk).1⟩
  · exact ⟨h0, (Array.getElem?_eq_some_iff.1 hbk).1⟩
/-- The closure that lays. -/
abbrev layV (b L : Nat) : Value := .func (.func 30) #[] #[.pointer (some ⟨b, 0, none⟩), .pointer (some ⟨L, 0, none⟩)]
abbrev tL : TypeId := 51
/-- The builder holds a text, the variable the closure; what was there ahead of both is as it was. -/
structure Lng (w0 : World) (b L : Nat) (acc : List UInt8) (w : World) : Prop where
  low : Below w0.heap.size w0 w
  bld : Lib.IsBuilderF tB tU w0.heap.size b (Lib.byteCells acc) w
  var : Blk w L #[layV b L] tL
  ne : L ≠ b
abbrev OK11 (b : Nat) (w w' : World) : Prop := Lib.OthersKept tU (some b) w w'
theorem OK11.of_below {b : Nat} {w w' : World} (h : Below w.heap.size w w') : OK11 b w w' := fun k o hk _ _ => (h.block k (Array.getElem?_eq_some_iff.1 hk).1).trans hk
theorem OK11.blk {b : Nat} {w w' : World} (h : OK11 b w w') {B : Nat} {vs : Array Value} {t : TypeId} (hb : Blk w B vs t) (hne : B ≠ b) (ht : t ≠ tU) : Blk w' B vs t :=
  h B _ hb (fun e => hne (Option.some.inj e)) (fun c fz e => ht (by injection e))
theorem Lng.keep {w0 w w' : World} {b L : Nat} {acc : List UInt8} (h : Lng w0 b L acc w) (hb : Below w.heap.size w w') : Lng w0 b L acc w' := ⟨next h.low hb, isF_keep h.bld hb, h.var.keep hb, h.ne⟩
theorem Lng.alloc {w0 w : World} {b L : Nat} {acc : List UInt8} (h : Lng w0 b L acc w) (o : Obj) : Lng w0 b L acc (w.alloc o) := h.keep ((Below.refl _ _).alloc (Nat.le_refl _) _)
theorem Lng.drew {w0 w : World} {b L : Nat} {acc : List UInt8} (h : Lng w0 b L acc w) : Lng w0 b L acc w.drew := ⟨h.low.drew, h.bld, h.var, h.ne⟩
theorem Lng.lt {w0 w : World} {b L : Nat} {acc : List UInt8} (h : Lng w0 b L acc w) : b < w.heap.size := (isF_lt h.bld).2
theorem Lng.at {w0 w : World} {b L : Nat} {acc : List UInt8} (h : Lng w0 b L acc w) (o : Obj) : (w.alloc o).cell? ⟨L, 0, none⟩ = some (layV b L) := (h.var.alloc o).one
theorem tL_ne : tL ≠ tU := by decide
theorem tX_ne : (26 : TypeId) ≠ tU := by decide
theorem wb_any {w0 w : World} {b L : Nat} {acc : List UInt8} (h : Lng w0 b L acc w) (hl : acc.length < 70368744177664) (c : UInt8) :
    Calls Tryd.prog 32 #[.pointer (some ⟨b, 0, none⟩), .int .u8 c.toNat] w fun e w' => e = .returned .nilIface ∧ Lng w0 b L (acc ++ [c]) w' ∧ OK11 b w w' := by
  refine (writeByte_k w0.heap.size b (Lib.byteCells acc) c.toNat w h.bld (by rw [Lib.byteCells_length]; omega) h.low.size).mono ?_
  rintro e w' ⟨rfl, h1, h2, h3⟩
  exact ⟨rfl, ⟨h.low.trans h2, .inr (by rw [Lib.byteCells_append]; exact h1), OK11.blk h3 h.var h.ne tL_ne, h.ne⟩, h3⟩
theorem wb_40 {w0 w : World} {b L : Nat} {acc : List UInt8} (h : Lng w0 b L acc w) (hl : acc.length < 70368744177664) :
    Calls Tryd.prog 32 #[.pointer (some ⟨b, 0, none⟩), .int .u8 40] w fun e w' => e = .returned .nilIface ∧ Lng w0 b L (acc ++ [40]) w' ∧ OK11 b w w' := wb_any h hl 40
theorem wb_41 {w0 w : World} {b L : Nat} {acc : List UInt8} (h : Lng w0 b L acc w) (hl : acc.length < 70368744177664) :
    Calls Tryd.prog 32 #[.pointer (some ⟨b, 0, none⟩), .int .u8 41] w fun e w' => e = .returned .nilIface ∧ Lng w0 b L (acc ++ [41]) w' ∧ OK11 b w w' := wb_any h hl 41
theorem wb_44 {w0 w : World} {b L : Nat} {acc : List UInt8} (h : Lng w0 b L acc w) (hl : acc.length < 70368744177664) :
    Calls Tryd.prog 32 #[.pointer (some ⟨b, 0, none⟩), .int .u8 44] w fun e w' => e = .returned .nilIface ∧ Lng w0 b L (acc ++ [44]) w' ∧ OK11 b w w' := wb_any h hl 44
theorem ws_any {w0 w : World} {b L : Nat} {acc : List UInt8} (h : Lng w0 b L acc w) (s : List UInt8) (hl : acc.length + s.length < 70368744177664) :
    Calls Tryd.prog 34 #[.pointer (some ⟨b, 0, none⟩), .string (ba s)] w fun e w' => e = .returned (.tuple #[.int .i64 s.length, .nilIface]) ∧ Lng w0 b L (acc ++ s) w' ∧ OK11 b w w' := by
  refine (writeString_k w0.heap.size b (Lib.byteCells acc) (ba s) w h.bld (by rw [Lib.byteCells_length, ba_size]; omega) h.low.size).mono ?_
  rintro e w' ⟨rfl, h1, h2, h3⟩
  exact ⟨by rw [ba_size], ⟨h.low.trans h2, .inr (by rw [Lib.byteCells_append]; exact h1), OK11.blk h3 h.var h.ne tL_ne, h.ne⟩, h3⟩
/-- What the closure answers of a tree. -/
abbrev LayIs11 (w0 : World) (b L : Nat) (t : Ex) : Prop := ∀ (v : Value) (n : Int) (acc : List UInt8) (w : World), Tree w0 v t → Lng w0 b L acc w → acc.length + (frE n t).length < 70368744177664 →
  Calls Tryd.prog 30 #[v, .int .i64 n, .pointer (some ⟨b, 0, none⟩), .pointer (some ⟨L, 0, none⟩)] w fun e w' => e = .returned (.tuple #[]) ∧ Lng w0 b L (acc ++ frE n t) w' ∧ OK11 b w w'
/-- The same where no brackets are wanted. -/
abbrev CoreIs (w0 : World) (b L : Nat) (t : Ex) : Prop := ∀ (v : Value) (n : Int) (acc : List UInt8) (w : World), n ≤ lv t.nd → Tree w0 v t → Lng w0 b L acc w → acc.length + (txE t).length < 70368744177664 →
  Calls Tryd.prog 30 #[v, .int .i64 n, .pointer (some ⟨b, 0, none⟩), .pointer (some ⟨L, 0, none⟩)] w fun e w' => e = .returned (.tuple #[]) ∧ Lng w0 b L (acc ++ txE t) w' ∧ OK11 b w w'
end Go.Proofs.YtnfoknifofglbaaDoor.T9
