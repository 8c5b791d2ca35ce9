/- What lies around the two loops of the law AreaPlaces: the boxes of its variables, and how they are kept. -/
import Derived.Test.YtibogmlnbipbbaaBegun3
import Derived.Test.YtibogmlnbipbbaaAt3
namespace Go.Proofs.Ytibogmlnbipbbaa
open Go.RowKit Go.Shelf Go.Sort
set_option linter.unusedVariables false
attribute [local go_sem] Oper.semAt_some

def c1 : Code → Code
  | .seq a _ => a
  | .cond _ a _ => a
  | .block _ b => b
  | .loop b => b
  | .rangeFunc _ _ a _ => a
  | c => c
def c2 : Code → Code
  | .seq _ b => b
  | .cond _ _ b => b
  | .rangeFunc _ _ _ b => b
  | c => c
/-- The range over the area's places, within a pass. -/
def rfO (c : Code) : Code := c1 (c2 (c1 (c2 (c1 (c1 (c2 (c1 (c1 (c2 (c1 (c2 (c2 (c2 (c2 (c2 c)))))))))))))))
/-- The range within it. -/
def rfI (c : Code) : Code := c1 (c2 (c1 (c2 (c1 (c2 (c1 (c2 (c2 (c2 (c2 (c1 (c2 (rfO c)))))))))))))

theorem grown_trans {X Y Z : World} {row : Option Nat} (h : X.grownBy Y row) (k : Y.grownBy Z row) : X.grownBy Z row :=
  ⟨k.os.trans h.os, k.tape.trans h.tape, k.output.trans h.output, Nat.le_trans h.size k.size, fun j hj hne => (k.block j (Nat.lt_of_lt_of_le hj h.size) hne).trans (h.block j hj hne)⟩
theorem OwnFrom.or {β : Type} {B : Nat} {P Q : β → World → Prop} (h : OwnFrom B P) (k : OwnFrom B Q) : OwnFrom B (fun s W => P s W ∨ Q s W) :=
  fun s X Y row hs hg hr => hs.elim (fun a => .inl (h s X Y row a hg hr)) (fun a => .inr (k s X Y row a hg hr))
/-- The boxes: the area, stop, within, the answer, area.All's copy, all, n, pass; all of them below lim. -/
structure Env (t l b r stp wth N pv : Int) (z Bn al nb p lim : Nat) (W : World) : Prop where
  fa : Blk W z #[.int .i64 t, .int .i64 l, .int .i64 b, .int .i64 r] 26
  fs : Blk W (z + 1) #[.int .i64 stp] 3
  fw : Blk W (z + 2) #[.int .i64 wth] 3
  fr : ∃ v, Blk W (z + 3) #[.bool v] 4
  fg : Blk W Bn #[.int .i64 t, .int .i64 l, .int .i64 b, .int .i64 r] 26
  fl : Blk W al #[.func (.func 26) #[] #[.pointer (some ⟨Bn, 0, none⟩)]] 33
  fn : Blk W nb #[.int .i64 N] 3
  fp : Blk W p #[.int .i64 pv] 3
  lz : z + 3 < lim
  lg : Bn < lim
  ll : al < lim
  ln : nb < lim
  lp : p < lim
theorem Env.kept {t l b r stp wth N pv : Int} {z Bn al nb p lim : Nat} {W W' : World} {B : Nat} (h : Env t l b r stp wth N pv z Bn al nb p lim W) (hg : W.grownBy W' (some B)) (hB : lim ≤ B) : Env t l b r stp wth N pv z Bn al nb p lim W' := by
  have h1 := h.lz
  have h2 := h.lg
  have h3 := h.ll
  have h4 := h.ln
  have h5 := h.lp
  obtain ⟨v, hv⟩ := h.fr
  exact ⟨h.fa.kept hg (by simp; omega), h.fs.kept hg (by simp; omega), h.fw.kept hg (by simp; omega), ⟨v, hv.kept hg (by simp; omega)⟩, h.fg.kept hg (by simp; omega), h.fl.kept hg (by simp; omega), h.fn.kept hg (by simp; omega), h.fp.kept hg (by simp; omega), h1, h2, h3, h4, h5⟩
theorem Env.keep {t l b r stp wth N pv : Int} {z Bn al nb p lim : Nat} {W W' : World} (h : Env t l b r stp wth N pv z Bn al nb p lim W) (hb : Below W.heap.size W W') : Env t l b r stp wth N pv z Bn al nb p lim W' := by
  obtain ⟨v, hv⟩ := h.fr
  exact ⟨h.fa.keep hb, h.fs.keep hb, h.fw.keep hb, ⟨v, hv.keep hb⟩, h.fg.keep hb, h.fl.keep hb, h.fn.keep hb, h.fp.keep hb, h.lz, h.lg, h.ll, h.ln, h.lp⟩
theorem Env.alloc {t l b r stp wth N pv : Int} {z Bn al nb p lim : Nat} {W : World} (h : Env t l b r stp wth N pv z Bn al nb p lim W) (o : Obj) : Env t l b r stp wth N pv z Bn al nb p lim (W.alloc o) := h.keep ((Below.refl _ _).alloc (Nat.le_refl _) _)
/-- What the reference's At answers of the k-th place. -/
abbrev AtIs (t l b r : Int) (m : Nat) (x y : Int) : Prop := Hid (∀ w, Calls Try.prog 12 #[areaV t l b r, .int .i64 m] w fun e w' => e = .returned (spotV x y) ∧ Below w.heap.size w w')
theorem atIs {t l b r : Int} {nc N m : Nat} (h : HasN t l b r nc N) (hm : m < N) : AtIs t l b r m (plc t l nc m).1 (plc t l nc m).2 := by
  rcases h with ⟨ho, nr, h1, h2, rfl⟩ | ⟨ho, rfl⟩
  · intro w
    have e : r - l + 1 = (nc : Int) := by omega
    have e' : b - t + 1 = (nr : Int) := by omega
    have := at_any t l b r m w ho (by omega) (by rw [e, e', ← Int.natCast_mul]; exact_mod_cast hm)
    rw [e] at this
    unfold plc
    simpa using this
  · omega
end Go.Proofs.Ytibogmlnbipbbaa
