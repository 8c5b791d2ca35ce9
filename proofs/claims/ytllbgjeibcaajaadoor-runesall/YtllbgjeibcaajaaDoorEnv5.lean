/- What lies around the two loops of the law's own goes: the boxes of its variables, and how they are kept. -/
import Derived.Test.YtllbgjeibcaajaaDoorAllN5
import Derived.Test.YtllbgjeibcaajaaDoorStarts5
namespace Go.Proofs.YtllbgjeibcaajaaDoor
open Go.RowKit Go.Shelf Go.Sort
set_option linter.unusedVariables false
attribute [local go_sem] Oper.semAt_some

def c1 : Code → Code
  | .seq a _ => a
  | .cond _ a _ => a
  | .block _ b => b
  | .loop b => b
  | .rangeFunc _ _ a _ => a
  | c => c
def c2 : Code → Code
  | .seq _ b => b
  | .cond _ _ b => b
  | .rangeFunc _ _ _ b => b
  | c => c
/-- The range over the text's runes, within a pass. -/
def rfO (c : Code) : Code := c1 (c2 (c1 (c2 (c1 (c1 (c2 (c1 (c1 (c2 (c1 (c2 (c2 (c2 (c2 c))))))))))))))
/-- The range within it. -/
def rfI (c : Code) : Code := c1 (c2 (c1 (c2 (c1 (c2 (c1 (c2 (c2 (c2 (c2 (c1 (c2 (rfO c)))))))))))))
theorem grown_trans {X Y Z : World} {row : Option Nat} (h : X.grownBy Y row) (k : Y.grownBy Z row) : X.grownBy Z row :=
  ⟨k.os.trans h.os, k.tape.trans h.tape, k.output.trans h.output, Nat.le_trans h.size k.size, fun j hj hne => (k.block j (Nat.lt_of_lt_of_le hj h.size) hne).trans (h.block j hj hne)⟩
theorem OwnFrom.or {β : Type} {B : Nat} {P Q : β → World → Prop} (h : OwnFrom B P) (k : OwnFrom B Q) : OwnFrom B (fun s W => P s W ∨ Q s W) :=
  fun s X Y row hs hg hr => hs.elim (fun a => .inl (h s X Y row a hg hr)) (fun a => .inr (k s X Y row a hg hr))
theorem Places.kept {s : ByteArray} {g B : Nat} {W W' : World} (h : Places s g W) (hg : W.grownBy W' (some B)) (hne : g ≠ B) : Places s g W' := fun j hj => by
  have h1 := h j hj
  have h2 := hg.block g (block_lt_of_cell h1) (by simp; exact hne)
  rw [← h1]
  simp only [World.cell?, h2]
theorem walks_of {W W' : World} {B : Nat} {vs : Array Value} {t : TypeId} (hg : W.grownBy W' (some B)) (hb : Blk W B vs t) : KeepsWalks W W' :=
  KeepsWalks.of_grownBy hg fun j o e ho => by cases e; rw [show W.heap[B]? = _ from hb] at ho; cases ho; rfl
theorem ne2 {m : Nat} (h : ¬ m = 1) : (((m : Int) + 1) == 2) = false := by rw [beq_eq_false_iff_ne]; omega
theorem wf1 (N : Nat) (h : N ≤ 200000) : wrap64 ((N : Int) + 1 - 1) = N := by rw [show (N : Int) + 1 - 1 = N by omega]; exact w_in N (by omega)
theorem wf2 {m N : Nat} (h : m < N) (hN : N ≤ 200000) : wrap64 ((m : Int) + 1) = (m : Int) + 1 := by rw [show (m : Int) + 1 = ((m + 1 : Nat) : Int) by omega]; exact w_in (m + 1) (by omega)
theorem wf3 (N : Nat) (h : N ≤ 200000) : wrap64 (N : Int) = N := w_in N (by omega)
theorem wf4 (N : Nat) (h : N ≤ 1114111) : wrap64 (N : Int) = N := w_in N (by omega)
/-- The boxes: the text, stop, the answer, the places' row and its box, runes.All's copy, all, pass; all of them below lim. -/
structure Env (s : ByteArray) (stp pv : Int) (z g c lB Bn al p lim : Nat) (W : World) : Prop where
  fs : Blk W z #[.string s] 9
  ft : Blk W (z + 1) #[.int .i64 stp] 2
  fr : ∃ v, Blk W (z + 2) #[.bool v] 4
  pl : Places s g W
  fl : Blk W lB #[.slice (some ⟨g, 0, none⟩) (rc s 0 + 1) c] 48
  fg : Blk W Bn #[.string s] 9
  fa : Blk W al #[.func (.func 23) #[] #[.pointer (some ⟨Bn, 0, none⟩)]] 37
  fp : Blk W p #[.int .i64 pv] 3
  lz : z + 2 < lim
  lp : g < lim
  ll : lB < lim
  lg : Bn < lim
  la : al < lim
  lq : p < lim
theorem Env.kept {s : ByteArray} {stp pv : Int} {z g c lB Bn al p lim : Nat} {W W' : World} {B : Nat} (h : Env s stp pv z g c lB Bn al p lim W) (hg : W.grownBy W' (some B)) (hB : lim ≤ B) : Env s stp pv z g c lB Bn al p lim W' := by
  have h1 := h.lz
  have h2 := h.lp
  have h3 := h.ll
  have h4 := h.lg
  have h5 := h.la
  have h6 := h.lq
  obtain ⟨v, hv⟩ := h.fr
  exact ⟨h.fs.kept hg (by simp; omega), h.ft.kept hg (by simp; omega), ⟨v, hv.kept hg (by simp; omega)⟩, h.pl.kept hg (by omega), h.fl.kept hg (by simp; omega), h.fg.kept hg (by simp; omega), h.fa.kept hg (by simp; omega), h.fp.kept hg (by simp; omega), h1, h2, h3, h4, h5, h6⟩
theorem Env.keep {s : ByteArray} {stp pv : Int} {z g c lB Bn al p lim : Nat} {W W' : World} (h : Env s stp pv z g c lB Bn al p lim W) (hb : Below W.heap.size W W') : Env s stp pv z g c lB Bn al p lim W' := by
  obtain ⟨v, hv⟩ := h.fr
  exact ⟨h.fs.keep hb, h.ft.keep hb, ⟨v, hv.keep hb⟩, h.pl.keep hb, h.fl.keep hb, h.fg.keep hb, h.fa.keep hb, h.fp.keep hb, h.lz, h.lp, h.ll, h.lg, h.la, h.lq⟩
theorem Env.alloc {s : ByteArray} {stp pv : Int} {z g c lB Bn al p lim : Nat} {W : World} (h : Env s stp pv z g c lB Bn al p lim W) (o : Obj) : Env s stp pv z g c lB Bn al p lim (W.alloc o) := h.keep ((Below.refl _ _).alloc (Nat.le_refl _) _)
end Go.Proofs.YtllbgjeibcaajaaDoor
