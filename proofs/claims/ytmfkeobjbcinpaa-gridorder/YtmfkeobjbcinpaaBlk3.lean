/- Blocks through a range over a function: what is written is one variable's box, all else lies as it lay. -/
import Derived.Test.YtmfkeobjbcinpaaIter3
namespace Go.Proofs.Ytmfkeobjbcinpaa
open Go.RowKit Go.Shelf Go.Sort
set_option linter.unusedVariables false

/-- Block B holds these cells, none of them frozen. -/
def Blk (W : World) (B : Nat) (vs : Array Value) (t : TypeId) : Prop := W.heap[B]? = some (.cells vs t (0, 0))
theorem Blk.lt {W : World} {B : Nat} {vs : Array Value} {t : TypeId} (h : Blk W B vs t) : B < W.heap.size := (Array.getElem?_eq_some_iff.1 h).1
theorem Blk.new (W : World) (vs : Array Value) (t : TypeId) : Blk (W.alloc (.cells vs t)) W.heap.size vs t := World.alloc_heap_new W _
theorem Blk.kept {W W' : World} {row : Option Nat} {B : Nat} {vs : Array Value} {t : TypeId} (h : Blk W B vs t) (hg : W.grownBy W' row) (hne : some B ≠ row) : Blk W' B vs t := (hg.block B h.lt hne).trans h
theorem Blk.alloc {W : World} {B : Nat} {vs : Array Value} {t : TypeId} (h : Blk W B vs t) (o : Obj) : Blk (W.alloc o) B vs t := h.kept (World.grownBy_alloc W o none) (by simp)
theorem Blk.keep {W W' : World} {B : Nat} {vs : Array Value} {t : TypeId} (h : Blk W B vs t) (hb : Below W.heap.size W W') : Blk W' B vs t := (hb.block B h.lt).trans h
theorem Blk.own {β : Type} (B : Nat) (t : TypeId) (f : β → Array Value) : Own (fun s W => Blk W B (f s) t) := fun s X Y row hs hg hrow =>
  hs.kept hg (fun e' => by obtain ⟨o, ho, hc⟩ := hrow B e'.symm; rw [show X.heap[B]? = _ from hs] at ho; cases ho; cases hc)
theorem Blk.c2 {W : World} {B : Nat} {v0 v1 : Value} {t : TypeId} (h : Blk W B #[v0, v1] t) : C2 W B v0 v1 := by constructor <;> simp [World.cell?, show W.heap[B]? = _ from h]
theorem Blk.c4 {W : World} {B : Nat} {v0 v1 v2 v3 : Value} {t : TypeId} (h : Blk W B #[v0, v1, v2, v3] t) : C4 W B v0 v1 v2 v3 := by refine ⟨?_, ?_, ?_, ?_⟩ <;> simp [World.cell?, show W.heap[B]? = _ from h]
theorem Blk.c1 {W : World} {B : Nat} {v0 : Value} {t : TypeId} (h : Blk W B #[v0] t) : W.cell? ⟨B, 0, none⟩ = some v0 := by simp [World.cell?, show W.heap[B]? = _ from h]
theorem Blk.fr {W : World} {B : Nat} {vs : Array Value} {t : TypeId} (h : Blk W B vs t) (j : Nat) : W.frozen? ⟨B, j, none⟩ = false := by simp [World.frozen?, show W.heap[B]? = _ from h]
theorem Blk.set {W : World} {B : Nat} {v : Value} {t : TypeId} (h : Blk W B #[v] t) (v' : Value) : Blk (W.setCell ⟨B, 0, none⟩ v') B #[v'] t := Boxed.set v' h
theorem Blk.other {W : World} {B B' : Nat} {vs : Array Value} {t : TypeId} (h : Blk W B vs t) (hne : B ≠ B') (u : Value) : Blk (W.setCell ⟨B', 0, none⟩ u) B vs t := h.kept (grownBy_setCell' W B' u) (fun e => hne (by cases e; rfl))

/-- What lay in w0, but for one block, lies as it lay: kept by the law's own book-keeping. -/
theorem ownFrom_grown {β : Type} (w0 : World) (row : Option Nat) : OwnFrom w0.heap.size (fun (_ : β) W => w0.grownBy W row) := fun _ X Y row' hs hg hr =>
  ⟨hg.os.trans hs.os, hg.tape.trans hs.tape, hg.output.trans hs.output, Nat.le_trans hs.size hg.size, fun k hk hne => (hg.block k (Nat.lt_of_lt_of_le hk hs.size) (fun e => by have := (hr k e.symm).1; omega)).trans (hs.block k hk hne)⟩
theorem ownFrom_grown' {β : Type} {B : Nat} (w0 : World) (row : Option Nat) (hB : w0.heap.size ≤ B) : OwnFrom B (fun (_ : β) W => w0.grownBy W row) := fun _ X Y row' hs hg hr =>
  ⟨hg.os.trans hs.os, hg.tape.trans hs.tape, hg.output.trans hs.output, Nat.le_trans hs.size hg.size, fun k hk hne => (hg.block k (Nat.lt_of_lt_of_le hk hs.size) (fun e => by have := (hr k e.symm).1; omega)).trans (hs.block k hk hne)⟩
theorem grown_keep {w0 W W' : World} {row : Option Nat} (h : w0.grownBy W row) (hb : Below W.heap.size W W') : w0.grownBy W' row :=
  ⟨hb.os.trans h.os, hb.tape.trans h.tape, hb.output.trans h.output, Nat.le_trans h.size hb.size, fun k hk hne => (hb.block k (Nat.lt_of_lt_of_le hk h.size)).trans (h.block k hk hne)⟩
theorem grown_refl (w0 : World) (row : Option Nat) : w0.grownBy w0 row := ⟨rfl, rfl, rfl, Nat.le_refl _, fun _ _ _ => rfl⟩
theorem grown_alloc {w0 W : World} {row : Option Nat} (h : w0.grownBy W row) (o : Obj) : w0.grownBy (W.alloc o) row := grown_keep h ((Below.refl _ _).alloc (Nat.le_refl _) _)
theorem grown_set {w0 W : World} {B : Nat} (h : w0.grownBy W (some B)) (v : Value) : w0.grownBy (W.setCell ⟨B, 0, none⟩ v) (some B) := by
  have hg := grownBy_setCell' W B v
  exact ⟨hg.os.trans h.os, hg.tape.trans h.tape, hg.output.trans h.output, Nat.le_trans h.size hg.size, fun k hk hne => (hg.block k (Nat.lt_of_lt_of_le hk h.size) hne).trans (h.block k hk hne)⟩
/-- What is written beyond w0's end is no block of w0's. -/
theorem grown_beyond {w0 W W' : World} {row row' : Option Nat} (h : w0.grownBy W row) (hg : W.grownBy W' row') (hr : ∀ k, row' = some k → w0.heap.size ≤ k) : w0.grownBy W' row :=
  ⟨hg.os.trans h.os, hg.tape.trans h.tape, hg.output.trans h.output, Nat.le_trans h.size hg.size, fun k hk hne => (hg.block k (Nat.lt_of_lt_of_le hk h.size) (fun e => by have := hr k e.symm; omega)).trans (h.block k hk hne)⟩
theorem grown_is_below {w w0 W : World} {B : Nat} (hb : Below w.heap.size w w0) (h : w0.grownBy W (some B)) (hB : w.heap.size ≤ B) : Below w.heap.size w W :=
  hb.grown h hb.size (fun k e => by cases e; exact hB)
theorem KB_of_grown {B B' : Nat} {W W' : World} (hg : W.grownBy W' (some B')) (hlt : B < W.heap.size) (hne : B ≠ B') : KB B W W' := hg.block B hlt (fun e => hne (by cases e; rfl))
/-- A list of places that is no front of the area's. -/
def NoFront (t l : Int) (nc N : Nat) (pre : List (Int × Int)) : Prop := ¬ ∃ k, k ≤ N ∧ pre = upto t l nc k
theorem noFront_of {t l : Int} {nc N k : Nat} {x : Int × Int} (h : x ≠ plc t l nc k) : NoFront t l nc N (upto t l nc k ++ [x]) := by
  rintro ⟨m, hm, e⟩
  have hl := congrArg List.length e
  simp [upto_len] at hl
  subst hl
  rw [upto_succ] at e
  exact h (by simpa using e)
theorem KeepsFrom.keep {B : Nat} {W W' : World} (h : Below W.heap.size W W') : KeepsFrom B W W' := ⟨h.size, fun k o _ hk _ => (h.block k (Array.getElem?_eq_some_iff.1 hk).1).trans hk⟩
end Go.Proofs.Ytmfkeobjbcinpaa
