/- A table of the grid: a box that holds a map, and the map's block; carried over what leaves it alone. -/
import Derived.Test.YtmfkeobjbcinpaaTab7
import Derived.Test.YtmfkeobjbcinpaaBlk3
import Derived.StillTailTactics
import Derived.Maps.OwnSet
namespace Go.Proofs.Ytmfkeobjbcinpaa
open Go.RowKit Go.Maps Go.Shelf Go.Sort
set_option linter.unusedVariables false

/-- The pointer to block Bt is a table of type T whose map, in block b, holds what the list says. -/
def TabAt (w : World) (T : TypeId) (Bt b : Nat) (L : Tb Value) : Prop := Blk w Bt #[.map (some b)] T ∧ Tab w b L
section
variable {w w' : World} {T : TypeId} {Bt b : Nat} {L : Tb Value}
theorem TabAt.ne (h : TabAt w T Bt b L) : Bt ≠ b := by
  rintro rfl
  obtain ⟨h1, es, clock, h2, _⟩ := h
  rw [show w.heap[Bt]? = _ from h1] at h2
  cases h2
theorem TabAt.keep (h : TabAt w T Bt b L) (hb : Below w.heap.size w w') : TabAt w' T Bt b L := ⟨h.1.keep hb, h.2.keep hb⟩
theorem TabAt.alloc (h : TabAt w T Bt b L) (o : Obj) : TabAt (w.alloc o) T Bt b L := ⟨h.1.alloc o, h.2.alloc o⟩
theorem TabAt.kept {row : Option Nat} (h : TabAt w T Bt b L) (hg : w.grownBy w' row) (h1 : some Bt ≠ row) (h2 : some b ≠ row) : TabAt w' T Bt b L := ⟨h.1.kept hg h1, h.2.kept hg h2⟩
theorem TabAt.lt (h : TabAt w T Bt b L) : Bt < w.heap.size ∧ b < w.heap.size := ⟨h.1.lt, h.2.lt⟩
end
theorem still_all {P : Program} {id : Nat} {Q : Exit → Act → World → Prop} {a : Act} {w : World} {l : List Oper} (hm : P.follows .mixedOrders = true) (hB : Region.lexB .any l.toArray = true)
    (h : wpStill P l.toArray w.drew (fun a' => Q .normal a' w.drew) l a) : (Code.region id l.toArray true).wp P Q a w := wp_region_still_lit hm hB h
theorem still_tail {P : Program} {id : Nat} {Q : Exit → Act → World → Prop} {a : Act} {w : World} {l : List Oper} (n : Nat) (hm : P.follows .mixedOrders = true) (hB : Region.lexTailB .any l.toArray n = true)
    (h : wpStill P l.toArray w.drew (fun a' => wpList P l.toArray Q (l.drop n) a' w.drew) (l.take n) a) : (Code.region id l.toArray true).wp P Q a w := wp_region_still_tail n hm hB h
section
variable {w : World} {ops : Array Oper} {rest : List Oper} {o : Oper} {a : Act} {Q : Exit → Act → World → Prop} {r c : Int} {b : Nat} {L : Tb Value}
/-- A store into the map, at the operation. -/
theorem wpList_store (hg : o.guard = none) (m x v : Operand) (t : TypeId) (hop : o.op = Op.mapUpdate t m x v) {e : TypeId} (ht : Try.prog.underlying t = some (.map 35 e))
    (hm : a.eval m = .map (some b)) (h : Tab w b L) (hmay : mayB r c = true) (val : Value) (hx : a.eval x = spotV r c) (hv : a.eval v = val)
    (hK : ∀ w', Tab w' b (insT L (r, c) val) → w.grownBy w' (some b) → wpList Try.prog ops Q rest (a.put o.dst undef) w') : wpList Try.prog ops Q (o :: rest) a w := by
  refine wpList_plain hg fun K' hK' => ?_
  obtain ⟨w', hrun, r1, r2⟩ := h.store ht hmay val
  unfold Oper.wp
  simp [execOp, hop, hm, hx, hv, hrun, Result.andThen]
  exact hK' _ _ (hK w' r1 r2)
/-- A deletion from the map, at the operation. -/
theorem wpList_drop (hg : o.guard = none) (m x : Operand) (t : TypeId) (hop : o.op = Op.call { callee := Callee.builtin Builtin.delete, args := #[m, x], argTypes := #[t, 35] }) {e : TypeId} (ht : Try.prog.underlying t = some (.map 35 e))
    (hm : a.eval m = .map (some b)) (h : Tab w b L) (hr : wfI r) (hc : wfI c) (hx : a.eval x = spotV r c)
    (hK : ∀ w', Tab w' b (delT L (r, c)) → w.grownBy w' (some b) → wpList Try.prog ops Q rest (a.put o.dst (.tuple #[])) w') : wpList Try.prog ops Q (o :: rest) a w := by
  refine wpList_plain hg fun K' hK' => ?_
  obtain ⟨w', hrun, r1, r2⟩ := h.drop ht hr hc o.type
  unfold Oper.wp
  simp [execOp, hop, resolve, invoke, builtin, hm, hx, hrun, Result.andThen]
  exact hK' _ _ (hK w' r1 r2)
end
theorem grown_drew {w w' : World} {row : Option Nat} (h : w.drew.grownBy w' row) : w.grownBy w' row := ⟨h.os, h.tape, h.output, h.size, h.block⟩
theorem below_grown {w w1 w2 : World} {b : Nat} (hb : Below w.heap.size w w1) (hg : w1.grownBy w2 (some b)) : w.grownBy w2 (some b) :=
  ⟨hg.os.trans hb.os, hg.tape.trans hb.tape, hg.output.trans hb.output, Nat.le_trans hb.size hg.size, fun k hk hne => (hg.block k (Nat.lt_of_lt_of_le hk hb.size) hne).trans (hb.block k hk)⟩
end Go.Proofs.Ytmfkeobjbcinpaa
