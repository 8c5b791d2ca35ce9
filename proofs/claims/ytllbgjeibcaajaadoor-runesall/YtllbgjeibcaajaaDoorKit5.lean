/- Small facts that the walks of package runes share: how contracts are carried; a range over a string lays one block and turns it. -/
import Derived.Test.YtllbgjeibcaajaaDoorRows
import Derived.Test.YtllbgjeibcaajaaDoorEnc5
import Derived.WalkKit
import Derived.WalkSpells
import Derived.WalkLawsBesides
import Derived.Deep.RegionWith
import Derived.Lib.QuietBelow
import Derived.BigQuiet
import Derived.Below
import Derived.Handy
import Derived.LoopTactic
import Derived.OwnWalk
import Derived.Laws.BytesArg
import Derived.Laws.RangeAny
import Derived.Laws.Runes
import Derived.Laws.Concat
namespace Go.Proofs.YtllbgjeibcaajaaDoor
open Go.RowKit Go.Sort
set_option linter.unusedVariables false

theorem hide {p : Prop} (h : p) : Hid p := h
theorem ret_bool {a b : Bool} (h : a = b) : Ending.returned (.bool a) = .returned (.bool b) := by rw [h]
theorem ret_int {k : IntKind} {a b : Int} (h : a = b) : Ending.returned (.int k a) = .returned (.int k b) := by rw [h]
theorem next {a w w' : World} (h : Below a.heap.size a w) (hb : Below w.heap.size w w') : Below a.heap.size a w' := h.trans (hb.mono h.size)
theorem step {a w : World} (h : Below a.heap.size a w) (o : Obj) : Below a.heap.size a (w.alloc o) := h.alloc h.size o
theorem keep1 {W w1 : World} {b o : Nat} {v : Value} (hb : Below W.heap.size W w1) (h : W.cell? ⟨b, o, none⟩ = some v) : w1.cell? ⟨b, o, none⟩ = some v := by
  rw [hb.cell (p := ⟨b, o, none⟩) (block_lt_of_cell h)]; exact h
theorem iter_below (w : World) (s : ByteArray) (p : Nat) : Below w.heap.size w (w.iter s p) := (Below.refl _ _).alloc (Nat.le_refl _) _
/-- internal/bytealg.MaxLen holds some number. -/
def Tab (w : World) : Prop := ∃ m, w.cell? ⟨0, 0, none⟩ = some (.int .i64 m)
theorem Tab.keep {W w1 : World} (h : Tab W) (hb : Below W.heap.size W w1) : Tab w1 := by obtain ⟨m, h⟩ := h; exact ⟨m, keep1 hb h⟩
theorem Tab.alloc {W : World} (h : Tab W) (o : Obj) : Tab (W.alloc o) := h.keep ((Below.refl _ _).alloc (Nat.le_refl _) _)
abbrev no : ByteArray := { data := #[] }
/-- What a call answers, whatever the world, and that it changes nothing that was there; CallT: where MaxLen holds a number. -/
abbrev CallIs (f : Nat) (args : Array Value) (v : Value) : Prop := Hid (∀ w, Calls Tryd.prog f args w fun e w' => e = .returned v ∧ Below w.heap.size w w')
abbrev CallT (f : Nat) (args : Array Value) (v : Value) : Prop := Hid (∀ w, Tab w → Calls Tryd.prog f args w fun e w' => e = .returned v ∧ Below w.heap.size w w')
theorem CallIs.t {f : Nat} {args : Array Value} {v : Value} (h : CallIs f args v) : CallT f args v := fun w _ => h w
theorem no_of {t : ByteArray} (h : t.size = 0) : t = no := by
  obtain ⟨⟨l⟩⟩ := t
  cases l with
  | nil => rfl
  | cons c r => simp [ByteArray.size] at h
end Go.Proofs.YtllbgjeibcaajaaDoor
