/- What GridOrder keeps: its variables, each in a block of its own, and the table. -/
import Derived.Test.YtmfkeobjbcinpaaBegun7
import Derived.Test.YtmfkeobjbcinpaaTyp7I
import Derived.Test.YtmfkeobjbcinpaaOver7I
import Derived.Test.YtmfkeobjbcinpaaRg7I
import Derived.Test.YtmfkeobjbcinpaaArgs7
import Derived.Test.YtmfkeobjbcinpaaAhead7
import Derived.Test.YtmfkeobjbcinpaaRound7
namespace Go.Proofs.Ytmfkeobjbcinpaa
open Go.RowKit Go.Shelf Go.Sort Go.Maps
set_option linter.unusedVariables false

/-- A block of cells is kept by the law's own book-keeping. -/
theorem blk_own {W W' : World} {row : Option Nat} {B0 B : Nat} {vs : Array Value} {T : TypeId} (h : Blk W B vs T) (hg : W.grownBy W' row) (hr : ∀ r, row = some r → B0 ≤ r ∧ ∃ o : Obj, W.heap[r]? = some o ∧ o.isCells = false) : Blk W' B vs T :=
  Blk.own B T (fun (_ : Unit) => vs) () W W' row h hg (fun r e => (hr r e).2)
theorem Blk.setAt {W : World} {B : Nat} {vs : Array Value} {t : TypeId} (h : Blk W B vs t) (j : Nat) (v : Value) : Blk (W.setCell ⟨B, j, none⟩ v) B (vs.setIfInBounds j v) t := by
  obtain ⟨hlt, hk⟩ := Array.getElem?_eq_some_iff.1 (show W.heap[B]? = _ from h)
  show (W.heap.modify B _)[B]? = _
  rw [Array.getElem?_eq_getElem (by rw [Array.size_modify]; exact hlt), Array.getElem_modify_self, hk]
  simp
theorem grown_setAt (W : World) (B j : Nat) (v : Value) : W.grownBy (W.setCell ⟨B, j, none⟩ v) (some B) :=
  ⟨rfl, rfl, rfl, (KeepsWalks.setCell W _ v).size, fun k _ hk => Below.heap_setCell _ _ _ k (fun e => hk (by rw [e]))⟩

/-- The parameters' boxes, the answer, n and the table. -/
structure Oa (W : World) (sl : Value) (t l bo r : Int) (bs ba br Bt b bn : Nat) (n : Nat) (L : Tb Int) (w : World) : Prop where
  sp : Blk w bs #[sl] 28
  ar : Blk w ba #[.int .i64 t, .int .i64 l, .int .i64 bo, .int .i64 r] 37
  rs : Blk w br #[.bool false] 4
  nn : Blk w bn #[.int .i64 n] 3
  tb : TabI w Bt b L
  bel : Below W.heap.size W w
  sep : W.heap.size ≤ bs ∧ bs < ba ∧ ba < br ∧ br < Bt ∧ br < b ∧ Bt ≠ b ∧ Bt < bn ∧ b < bn
section
variable {W w w' : World} {sl : Value} {t l bo r : Int} {bs ba br Bt b bn : Nat} {n : Nat} {L : Tb Int} {row : Option Nat}
theorem Oa.keep (h : Oa W sl t l bo r bs ba br Bt b bn n L w) (hb : Below w.heap.size w w') : Oa W sl t l bo r bs ba br Bt b bn n L w' :=
  ⟨h.sp.keep hb, h.ar.keep hb, h.rs.keep hb, h.nn.keep hb, h.tb.keep hb, next h.bel hb, h.sep⟩
theorem Oa.alloc (h : Oa W sl t l bo r bs ba br Bt b bn n L w) (o : Obj) : Oa W sl t l bo r bs ba br Bt b bn n L (w.alloc o) := h.keep (step (Below.refl _ _) o)
/-- Whatever is written beyond n. -/
theorem Oa.kept (h : Oa W sl t l bo r bs ba br Bt b bn n L w) (hg : w.grownBy w' row) (hr : ∀ k, row = some k → bn < k) : Oa W sl t l bo r bs ba br Bt b bn n L w' := by
  have s := h.sep
  have ne : ∀ k, k ≤ bn → some k ≠ row := fun k hk e => by have := hr k e.symm; omega
  exact ⟨h.sp.kept hg (ne _ (by omega)), h.ar.kept hg (ne _ (by omega)), h.rs.kept hg (ne _ (by omega)), h.nn.kept hg (ne _ (by omega)), h.tb.kept hg (ne _ (by omega)) (ne _ (by omega)), h.bel.grown hg h.bel.size (fun k e => by have := hr k e; omega), h.sep⟩
theorem Oa.own {B0 : Nat} (h : Oa W sl t l bo r bs ba br Bt b bn n L w) (hg : w.grownBy w' row) (hB : bn < B0) (hr : ∀ r, row = some r → B0 ≤ r ∧ ∃ o : Obj, w.heap[r]? = some o ∧ o.isCells = false) : Oa W sl t l bo r bs ba br Bt b bn n L w' :=
  h.kept hg (fun k e => by have := (hr k e).1; omega)
theorem Oa.setT (h : Oa W sl t l bo r bs ba br Bt b bn n L w) {L' : Tb Int} (ht : TabI w' Bt b L') (hg : w.grownBy w' (some b)) : Oa W sl t l bo r bs ba br Bt b bn n L' w' := by
  have s := h.sep
  exact ⟨h.sp.kept hg (by simp; omega), h.ar.kept hg (by simp; omega), h.rs.kept hg (by simp; omega), h.nn.kept hg (by simp; omega), ht, h.bel.grown hg h.bel.size (fun k e => by cases e; omega), h.sep⟩
theorem Oa.setN (h : Oa W sl t l bo r bs ba br Bt b bn n L w) (m : Nat) : Oa W sl t l bo r bs ba br Bt b bn m L (w.setCell ⟨bn, 0, none⟩ (.int .i64 m)) := by
  have s := h.sep
  have hg := grown_setAt w bn 0 (.int .i64 m)
  exact ⟨h.sp.kept hg (by simp; omega), h.ar.kept hg (by simp; omega), h.rs.kept hg (by simp; omega), h.nn.set _, h.tb.kept hg (by simp; omega) (by simp; omega), h.bel.grown hg h.bel.size (fun k e => by cases e; omega), h.sep⟩
theorem Oa.setS (h : Oa W sl t l bo r bs ba br Bt b bn n L w) (v : Value) : Oa W v t l bo r bs ba br Bt b bn n L (w.setCell ⟨bs, 0, none⟩ v) := by
  have s := h.sep
  have hg := grown_setAt w bs 0 v
  exact ⟨h.sp.set _, h.ar.kept hg (by simp; omega), h.rs.kept hg (by simp; omega), h.nn.kept hg (by simp; omega), h.tb.kept hg (by simp; omega) (by simp; omega), h.bel.grown hg h.bel.size (fun k e => by cases e; omega), h.sep⟩
theorem Oa.lt (h : Oa W sl t l bo r bs ba br Bt b bn n L w) : bn < w.heap.size := h.nn.lt
end
/-- last, many and in. -/
structure Ob (bl bm bi B : Nat) (la : Sp) (m : Nat) (K : List Sp) (w : World) : Prop where
  la : Blk w bl #[.int .i64 la.1, .int .i64 la.2] 35
  ma : Blk w bm #[.int .i64 m] 3
  inn : ∃ v, Blk w bi #[v] 28 ∧ RowS w B v K
  sep : bl < bm ∧ bm < bi ∧ bi < B
section
variable {w w' : World} {bl bm bi B : Nat} {la : Sp} {m : Nat} {K : List Sp} {row : Option Nat}
theorem Ob.keep (h : Ob bl bm bi B la m K w) (hb : Below w.heap.size w w') : Ob bl bm bi B la m K w' :=
  ⟨h.la.keep hb, h.ma.keep hb, let ⟨v, h1, h2⟩ := h.inn; ⟨v, h1.keep hb, row_keep h2 hb⟩, h.sep⟩
theorem Ob.alloc (h : Ob bl bm bi B la m K w) (o : Obj) : Ob bl bm bi B la m K (w.alloc o) := h.keep (step (Below.refl _ _) o)
theorem Ob.own {B0 : Nat} (h : Ob bl bm bi B la m K w) (hg : w.grownBy w' row) (hr : ∀ r, row = some r → B0 ≤ r ∧ ∃ o : Obj, w.heap[r]? = some o ∧ o.isCells = false) : Ob bl bm bi B la m K w' :=
  ⟨blk_own h.la hg hr, blk_own h.ma hg hr, let ⟨v, h1, h2⟩ := h.inn; ⟨v, blk_own h1 hg hr, row_own h2 hg (fun r e => (hr r e).2)⟩, h.sep⟩
theorem Ob.setL (h : Ob bl bm bi B la m K w) (s : Sp) : Ob bl bm bi B s m K ((w.setCell ⟨bl, 0, none⟩ (.int .i64 s.1)).setCell ⟨bl, 1, none⟩ (.int .i64 s.2)) := by
  have sp := h.sep
  have g1 := grown_setAt w bl 0 (.int .i64 s.1)
  have g2 := grown_setAt (w.setCell ⟨bl, 0, none⟩ (.int .i64 s.1)) bl 1 (.int .i64 s.2)
  obtain ⟨v, h1, h2⟩ := h.inn
  have k1 := h2.kept g1 (.inr (fun e => by have := (h2.lt _ e).1; omega))
  have k2 := k1.kept g2 (.inr (fun e => by have := (h2.lt _ e).1; omega))
  refine ⟨?_, (h.ma.kept g1 (by simp; omega)).kept g2 (by simp; omega), ⟨v, (h1.kept g1 (by simp; omega)).kept g2 (by simp; omega), k2⟩, h.sep⟩
  have := (h.la.setAt 0 (.int .i64 s.1)).setAt 1 (.int .i64 s.2)
  simpa [Array.setIfInBounds] using this
theorem Ob.setM (h : Ob bl bm bi B la m K w) (k : Nat) : Ob bl bm bi B la k K (w.setCell ⟨bm, 0, none⟩ (.int .i64 k)) := by
  have sp := h.sep
  have g1 := grown_setAt w bm 0 (.int .i64 k)
  obtain ⟨v, h1, h2⟩ := h.inn
  exact ⟨h.la.kept g1 (by simp; omega), h.ma.set _, ⟨v, h1.kept g1 (by simp; omega), h2.kept g1 (.inr (row_ne h2 h.ma (by decide)))⟩, h.sep⟩
end
/-- Within a round of the range over All: all that is kept, and that nothing but the variables was written. -/
structure Bd (W : World) (sl : Value) (t l bo r : Int) (bs ba br Bt b bn : Nat) (n : Nat) (L : Tb Int) (bl bm bi B : Nat) (ks : List Nat) (X : World) (la : Sp) (m : Nat) (K : List Sp) (w : World) : Prop where
  o : Oa W sl t l bo r bs ba br Bt b bn n L w
  p : Ob bl bm bi B la m K w
  kf : KeepsFrom B X w
  kk : KS ks X w
  z : B ≤ w.heap.size
  far : bn < bl ∧ ∀ k ∈ ks, bi < k ∧ k < B
section
variable {W w w' X : World} {sl : Value} {t l bo r : Int} {bs ba br Bt b bn : Nat} {n : Nat} {L : Tb Int} {bl bm bi B : Nat} {ks : List Nat} {la : Sp} {m : Nat} {K : List Sp}
theorem Bd.keep (h : Bd W sl t l bo r bs ba br Bt b bn n L bl bm bi B ks X la m K w) (hb : Below w.heap.size w w') : Bd W sl t l bo r bs ba br Bt b bn n L bl bm bi B ks X la m K w' :=
  ⟨h.o.keep hb, h.p.keep hb, h.kf.trans (KeepsFrom.keep hb), KS_t h.kk (KS.of_below hb), Nat.le_trans h.z hb.size, h.far⟩
theorem Bd.setL (h : Bd W sl t l bo r bs ba br Bt b bn n L bl bm bi B ks X la m K w) (s : Sp) : Bd W sl t l bo r bs ba br Bt b bn n L bl bm bi B ks X s m K ((w.setCell ⟨bl, 0, none⟩ (.int .i64 s.1)).setCell ⟨bl, 1, none⟩ (.int .i64 s.2)) := by
  have g1 := grown_setAt w bl 0 (.int .i64 s.1)
  have g2 := grown_setAt (w.setCell ⟨bl, 0, none⟩ (.int .i64 s.1)) bl 1 (.int .i64 s.2)
  have f := h.far
  have sp := h.p.sep
  have nk : ∀ k ∈ ks, some k ≠ some bl := fun k hk e => by have := (f.2 k hk).1; cases e; omega
  exact ⟨(h.o.kept g1 (fun k e => by cases e; exact f.1)).kept g2 (fun k e => by cases e; exact f.1), h.p.setL s, (h.kf.trans ((KeepsOthers.setCell _ _ _).from _)).trans ((KeepsOthers.setCell _ _ _).from _), KS_t (KS_t h.kk (KS.of_grown g1 nk)) (KS.of_grown g2 nk), Nat.le_trans h.z (Nat.le_trans g1.size g2.size), f⟩
theorem Bd.setM (h : Bd W sl t l bo r bs ba br Bt b bn n L bl bm bi B ks X la m K w) (k : Nat) : Bd W sl t l bo r bs ba br Bt b bn n L bl bm bi B ks X la k K (w.setCell ⟨bm, 0, none⟩ (.int .i64 k)) := by
  have g1 := grown_setAt w bm 0 (.int .i64 k)
  have f := h.far
  have sp := h.p.sep
  have nk : ∀ k ∈ ks, some k ≠ some bm := fun k hk e => by have := (f.2 k hk).1; cases e; omega
  exact ⟨h.o.kept g1 (fun k e => by cases e; omega), h.p.setM k, h.kf.trans ((KeepsOthers.setCell _ _ _).from _), KS_t h.kk (KS.of_grown g1 nk), Nat.le_trans h.z g1.size, f⟩
/-- Behind an append to in, and the store of it. -/
theorem Bd.app (h : Bd W sl t l bo r bs ba br Bt b bn n L bl bm bi B ks X la m K w) {v v' : Value} {K' : List Sp} (hv : Blk w bi #[v] 28) (hrow : RowS w B v K) (hrow' : RowS w' B v' K') (hg : w.grownBy w' v.ownBlock) : Bd W sl t l bo r bs ba br Bt b bn n L bl bm bi B ks X la m K' (w'.setCell ⟨bi, 0, none⟩ v') := by
  have f := h.far
  have sp := h.p.sep
  have nl : ∀ j, j ≤ bi → some j ≠ v.ownBlock := fun j hj e => by have := (hrow.lt j e.symm).1; omega
  have g2 := grown_setAt w' bi 0 v'
  have nk : ∀ k ∈ ks, some k ≠ some bi := fun k hk e => by have := (f.2 k hk).1; cases e; omega
  have hk : ∀ k ∈ ks, some k ≠ v.ownBlock := fun k hk e => by have := (hrow.lt k e.symm).1; have := f.2 k hk; omega
  have bi' := hv.kept hg (nl _ (Nat.le_refl _))
  have hne : v'.ownBlock ≠ some bi := row_ne hrow' bi' (by decide)
  refine ⟨(h.o.kept hg (fun k e => by have := (hrow.lt k e).1; omega)).kept g2 (fun k e => by cases e; omega), ⟨(h.p.la.kept hg (nl _ (by omega))).kept g2 (by simp; omega), (h.p.ma.kept hg (nl _ (by omega))).kept g2 (by simp; omega), ⟨v', bi'.set v', hrow'.kept g2 (.inr hne)⟩, h.p.sep⟩, (h.kf.trans ((row_others hrow hg).from _)).trans ((KeepsOthers.setCell _ _ _).from _), KS_t (KS_t h.kk (KS.of_grown hg hk)) (KS.of_grown g2 nk), Nat.le_trans h.z (Nat.le_trans hg.size g2.size), f⟩
end
section
variable {M : List (Sp × Int)}
def keysE (pre : List (ElI M)) : List Sp := pre.map (fun x => x.1.1)
/-- The place that came last. -/
def lastE (pre : List (ElI M)) : Sp := (pre.getLast?.map (·.1.1)).getD (-1, 0)
/-- In row order. -/
def SortE (pre : List (ElI M)) : Prop := pre.Pairwise (fun x y => ltS x.1.1 y.1.1)
theorem lastE_snoc (pre : List (ElI M)) (x : ElI M) : lastE (pre ++ [x]) = x.1.1 := by simp [lastE]
theorem sortE_snoc {pre : List (ElI M)} {x : ElI M} (h : SortE pre) (hl : ltS (lastE pre) x.1.1) : SortE (pre ++ [x]) := by
  unfold SortE at *
  rw [List.pairwise_append]
  refine ⟨h, List.pairwise_singleton _ _, fun y hy z hz => ?_⟩
  rw [List.mem_singleton.1 hz]
  rcases List.eq_nil_or_concat pre with rfl | ⟨p, z', rfl⟩
  · simp at hy
  · rw [List.concat_eq_append] at *
    rw [lastE_snoc] at hl
    rcases List.mem_append.1 hy with h1 | h1
    · exact ltS_trans ((List.pairwise_append.1 h).2.2 y h1 z' (by simp)) hl
    · rw [List.mem_singleton.1 h1]; exact hl
theorem not_sortE {pre : List (ElI M)} {x : ElI M} (hx : 0 ≤ x.1.1.1) (hl : ¬ ltS (lastE pre) x.1.1) : ¬ SortE (pre ++ [x]) := fun h => by
  unfold SortE at h
  rcases List.eq_nil_or_concat pre with rfl | ⟨p, z', rfl⟩
  · exact hl (.inl (by simp [lastE]; omega))
  · rw [List.concat_eq_append] at *
    rw [lastE_snoc] at hl
    exact hl ((List.pairwise_append.1 h).2.2 z' (by simp) x (by simp))
theorem sortE_take (h : SortT M) (k : Nat) : SortE (M.attach.take k) := by
  unfold SortE
  refine List.Pairwise.sublist (List.take_sublist k _) ?_
  have : (M.attach.map Subtype.val).Pairwise (fun p q => ltS p.1 q.1) := by rw [List.attach_map_subtype_val]; exact h
  rw [List.pairwise_map] at this
  exact this
end
theorem below_drew {W w : World} (h : Below W.heap.size W w) : Below W.heap.size W w.drew := ⟨h.os, h.tape, h.output, h.size, h.block⟩
theorem region_only {P : Program} {c : Code} {K : Act → World → Prop} {Q' : Exit → Act → World → Prop} {a : Act} {w : World} (h : c.wp P (Exit.then K (fun _ _ _ => False)) a w) : c.wp P (Exit.then K Q') a w := wp_mono h (fun e a w h => by cases e <;> first | exact h | exact h.elim)
theorem sort_same {M : List (Sp × Int)} (hs : SortT M) {x : ElI M} {j : Nat} (hj : j < M.length) (h : x.1.1 = (M[j]).1) : x.1 = M[j] := sort_fst hs x.2 (List.getElem_mem hj) h
theorem take_snoc {M : List (Sp × Int)} {pre : List (ElI M)} {x : ElI M} (hpre : pre = M.attach.take pre.length) (hlt : pre.length < M.length) (hx : x.1 = M[pre.length]) : pre ++ [x] = M.attach.take (pre ++ [x]).length := by
  have hl : pre.length < M.attach.length := by simpa using hlt
  have e : M.attach[pre.length] = x := Subtype.ext (by simp [hx])
  rw [List.length_append, List.length_singleton, List.take_succ_eq_append_getElem hl, e, ← hpre]
theorem not_front {M : List (Sp × Int)} {pre : List (ElI M)} {x : ElI M} (hlt : pre.length < M.length) (hx : x.1.1 ≠ (M[pre.length]).1) : ¬ ∃ k, pre ++ [x] = M.attach.take k := by
  rintro ⟨k, e⟩
  have h := congrArg (fun l => l[pre.length]?) e
  simp only [List.getElem?_append_right (Nat.le_refl _), Nat.sub_self, List.getElem?_cons_zero, List.getElem?_take] at h
  split at h
  · rw [List.getElem?_eq_getElem (by simpa using hlt)] at h
    have := congrArg (fun o : Option (ElI M) => o.map (fun y => y.1.1)) h
    simp at this
    exact hx this
  · cases h
end Go.Proofs.Ytmfkeobjbcinpaa
