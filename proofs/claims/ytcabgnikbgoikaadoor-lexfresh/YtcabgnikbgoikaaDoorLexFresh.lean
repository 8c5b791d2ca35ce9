/- LexFresh: its mathematics (what is kept, told apart by colours of blocks), the laws at its operations, and the law's walk. -/
import Derived.Test.YtcabgnikbgoikaaDoorLexAll
import Derived.Test.YtcabgnikbgoikaaDoorRf8g
import Derived.Maps.AppendAt
import Derived.Deep.MidRow
import Derived.Deep.WholeRow
import Derived.OwnWalk
namespace Go.Proofs.YtcabgnikbgoikaaDoor
open Go.RowKit Go.Sort
set_option linter.unusedVariables false

theorem owns_keep {w w' : World} {B : Nat} {e : TypeId} {z : Nat} {v : Value} {n : Nat} {xs : List Value} (h : w.ownsRow B e z v n xs) (hb : ∀ k, v.ownBlock = some k → w'.heap[k]? = w.heap[k]?) : w'.ownsRow B e z v n xs := by
  refine ⟨h.1, ?_⟩
  rcases h.2 with h2 | ⟨g, cap, cur, rfl, h1, h2, h3⟩
  · exact .inl h2
  · exact .inr ⟨g, cap, cur, rfl, h1, (hb g rfl).trans h2, h3⟩
theorem owns_lt {w : World} {B : Nat} {e : TypeId} {z : Nat} {v : Value} {n : Nat} {xs : List Value} (h : w.ownsRow B e z v n xs) : ∀ k, v.ownBlock = some k → B ≤ k ∧ k < w.heap.size := by
  intro k hk
  rcases h.2 with ⟨rfl, _⟩ | ⟨g, cap, cur, rfl, h1, h2, h3⟩
  · cases hk
  · cases hk
    exact ⟨h1, (Array.getElem?_eq_some_iff.1 h2).1⟩
theorem owns_base {w : World} {B B' : Nat} {e : TypeId} {z : Nat} {v : Value} {n : Nat} {xs : List Value} (h : w.ownsRow B e z v n xs) (hb : B' ≤ B) : w.ownsRow B' e z v n xs := by
  refine ⟨h.1, ?_⟩
  rcases h.2 with h2 | ⟨g, cap, cur, rfl, h1, h2⟩
  · exact .inl h2
  · exact .inr ⟨g, cap, cur, rfl, Nat.le_trans hb h1, h2⟩
/-- Words that are marks: their kinds and places. -/
def flatI (l : List (Int × Int)) : List Value := l.flatMap fun p => [.int .i64 p.1, .string no, .int .i64 p.2]
theorem flatI_len (l : List (Int × Int)) : (flatI l).length = l.length * 3 := by
  induction l with
  | nil => rfl
  | cons a l ih => simp [flatI, List.flatMap_cons] at ih ⊢; omega
theorem flatI_app (l m : List (Int × Int)) : flatI (l ++ m) = flatI l ++ flatI m := by simp [flatI]
abbrev RowI (w : World) (B : Nat) (v : Value) (l : List (Int × Int)) : Prop := w.ownsRow B 32 3 v l.length (flatI l)
/-- The marks of the j-th loud list: m written over, r grown. -/
def mks (j m r : Nat) : List (Int × Int) := List.replicate m (-1 - (j : Int), 0) ++ List.replicate r (-1 - (j : Int), 1)
theorem mks_len (j m r : Nat) : (mks j m r).length = m + r := by simp [mks]
theorem mks_more (j m r : Nat) : mks j m (r + 1) = mks j m r ++ [(-1 - (j : Int), 1)] := by
  unfold mks
  rw [List.replicate_succ', List.append_assoc]
/-- The row's own block has the colour. -/
def Col (c : Nat → Nat) (q : Nat) (v : Value) : Prop := ∀ x, v.ownBlock = some x → c x = q
/-- What is kept: loud lists, their lengths, quiet ones, and what they should be. -/
structure LxSt (W wr : World) (c : Nat → Nat) (b : Nat) (vl vn vq vw : Value) (ld : List Value) (ns : List Nat) (qs ws : List Value) (LQ LW : List (List Wd)) : Prop where
  low : Below W.heap.size W wr
  top : ∀ x, c x ≠ 0 → W.heap.size ≤ x ∧ x < wr.heap.size
  l : wr.ownsRow W.heap.size 26 1 vl ld.length ld
  lq : Col c 1 vl
  n : wr.ownsRow W.heap.size 3 1 vn ns.length (ns.map fun k : Nat => Value.int .i64 (k : Int))
  nq : Col c 2 vn
  q : wr.ownsRow W.heap.size 26 1 vq qs.length qs
  qq : Col c 3 vq
  w : wr.ownsRow W.heap.size 26 1 vw ws.length ws
  wq : Col c 4 vw
  ll : ∀ (j m : Nat) (v : Value), j < b → ns[j]? = some m → ld[j]? = some v → ∃ r, RowI wr W.heap.size v (mks j m r) ∧ Col c (10 + j) v ∧ m ≤ 65535 ∧ m + r ≤ 140000
  qm : ∀ (j : Nat) (M : List Wd) (v : Value), LQ[j]? = some M → qs[j]? = some v → RowW wr W.heap.size v M ∧ Col c 5 v ∧ M.length ≤ 65535
  wm : ∀ (j : Nat) (M : List Wd) (v : Value), LW[j]? = some M → ws[j]? = some v → RowW wr W.heap.size v M ∧ Col c 5 v
theorem LxSt.start {W wr : World} (h : Below W.heap.size W wr) : LxSt W wr (fun _ => 0) 0 (.slice none 0 0) (.slice none 0 0) (.slice none 0 0) (.slice none 0 0) [] [] [] [] [] [] where
  low := h
  top := fun x hx => absurd rfl hx
  l := ⟨rfl, .inl ⟨rfl, rfl⟩⟩
  lq := fun x hx => by cases hx
  n := ⟨rfl, .inl ⟨rfl, rfl⟩⟩
  nq := fun x hx => by cases hx
  q := ⟨rfl, .inl ⟨rfl, rfl⟩⟩
  qq := fun x hx => by cases hx
  w := ⟨rfl, .inl ⟨rfl, rfl⟩⟩
  wq := fun x hx => by cases hx
  ll := fun j m v h => by omega
  qm := fun j t cs h => by simp at h
  wm := fun j t cs h => by simp at h
/-- Nothing is written but blocks of a kind. -/
structure Ch8 (m : Nat → Prop) (w w' : World) : Prop where
  os : w'.os = w.os
  tape : w'.tape = w.tape
  output : w'.output = w.output
  size : w.heap.size ≤ w'.heap.size
  block : ∀ x, x < w.heap.size → ¬ m x → w'.heap[x]? = w.heap[x]?
theorem Ch8.of_below {w w' : World} (hb : Below w.heap.size w w') : Ch8 (fun _ => False) w w' := ⟨hb.os, hb.tape, hb.output, hb.size, fun x hx _ => hb.block x hx⟩
theorem Ch8.of_grown {w w' : World} {v : Value} (hg : w.grownBy w' v.ownBlock) : Ch8 (fun x => v.ownBlock = some x) w w' := ⟨hg.os, hg.tape, hg.output, hg.size, fun x hx hn => hg.block x hx (fun e => hn e.symm)⟩
section
variable {W wr w' : World} {c : Nat → Nat} {b : Nat} {vl vn vq vw : Value} {ld : List Value} {ns : List Nat} {qs ws : List Value} {LQ LW : List (List Wd)}
/-- What is written has no colour, or that of a loud list that is not told yet: all that is kept stays. -/
theorem LxSt.chg (h : LxSt W wr c b vl vn vq vw ld ns qs ws LQ LW) {m : Nat → Prop} (hc : Ch8 m wr w') (hm : ∀ x, m x → x < wr.heap.size → W.heap.size ≤ x ∧ (c x = 0 ∨ ∃ j, b ≤ j ∧ c x = 10 + j)) : LxSt W w' c b vl vn vq vw ld ns qs ws LQ LW := by
  have hk : ∀ x, c x ≠ 0 → (∀ j, b ≤ j → c x ≠ 10 + j) → w'.heap[x]? = wr.heap[x]? := fun x hx hn => hc.block x (h.top x hx).2 (fun e => by
    rcases (hm x e (h.top x hx).2).2 with e0 | ⟨j, hj, e1⟩
    · exact hx e0
    · exact hn j hj e1)
  have hrow : ∀ (q : Nat) (v : Value), q ≠ 0 → (∀ j, b ≤ j → q ≠ 10 + j) → Col c q v → ∀ x, v.ownBlock = some x → w'.heap[x]? = wr.heap[x]? := fun q v hq hj hcol x hx => hk x (by rw [hcol x hx]; exact hq) (fun j hb => by rw [hcol x hx]; exact hj j hb)
  have hsz := h.low.size
  refine ⟨⟨hc.os.trans h.low.os, hc.tape.trans h.low.tape, hc.output.trans h.low.output, Nat.le_trans h.low.size hc.size, fun x hx => (hc.block x (by omega) (fun e => by have := (hm x e (by omega)).1; omega)).trans (h.low.block x hx)⟩,
    fun x hx => ⟨(h.top x hx).1, Nat.lt_of_lt_of_le (h.top x hx).2 hc.size⟩, owns_keep h.l (hrow 1 _ (by omega) (fun j _ => by omega) h.lq), h.lq, owns_keep h.n (hrow 2 _ (by omega) (fun j _ => by omega) h.nq), h.nq, owns_keep h.q (hrow 3 _ (by omega) (fun j _ => by omega) h.qq), h.qq, owns_keep h.w (hrow 4 _ (by omega) (fun j _ => by omega) h.wq), h.wq, ?_, ?_, ?_⟩
  · intro j m' v hj h1 h2
    obtain ⟨r, hr, hq, hl⟩ := h.ll j m' v hj h1 h2
    exact ⟨r, owns_keep hr (hrow _ _ (by omega) (fun j' _ => by omega) hq), hq, hl⟩
  · intro j M v h1 h2
    obtain ⟨hr, hq, r⟩ := h.qm j M v h1 h2
    exact ⟨owns_keep hr (hrow _ _ (by omega) (fun j' _ => by omega) hq), hq, r⟩
  · intro j M v h1 h2
    obtain ⟨hr, hq⟩ := h.wm j M v h1 h2
    exact ⟨owns_keep hr (hrow _ _ (by omega) (fun j' _ => by omega) hq), hq⟩
theorem LxSt.below (h : LxSt W wr c b vl vn vq vw ld ns qs ws LQ LW) (hb : Below wr.heap.size wr w') : LxSt W w' c b vl vn vq vw ld ns qs ws LQ LW := h.chg (Ch8.of_below hb) (fun x hx => hx.elim)
/-- A thing of the round gets a colour. -/
def paint (c : Nat → Nat) (v : Value) (q : Nat) : Nat → Nat := fun x => if v.ownBlock = some x then q else c x
theorem paint_old {v : Value} {q x : Nat} (hv : ∀ y, v.ownBlock = some y → c y = 0) (hx : c x ≠ 0) : paint c v q x = c x := by
  unfold paint
  rw [if_neg (fun e => hx (hv x e))]
theorem paint_col {v v' : Value} {q q' : Nat} (hv : ∀ y, v.ownBlock = some y → c y = 0) (hq : q' ≠ 0) (h : Col c q' v') : Col (paint c v q) q' v' := fun x hx => by
  rw [paint_old hv (by rw [h x hx]; exact hq)]; exact h x hx
theorem paint_self {v : Value} {q : Nat} : Col (paint c v q) q v := fun x hx => by unfold paint; rw [if_pos hx]
theorem LxSt.paint (h : LxSt W wr c b vl vn vq vw ld ns qs ws LQ LW) {v : Value} {q : Nat} (hv : ∀ y, v.ownBlock = some y → c y = 0) (hl : ∀ y, v.ownBlock = some y → W.heap.size ≤ y ∧ y < wr.heap.size) : LxSt W wr (paint c v q) b vl vn vq vw ld ns qs ws LQ LW := by
  refine ⟨h.low, fun x hx => ?_, h.l, paint_col hv (by omega) h.lq, h.n, paint_col hv (by omega) h.nq, h.q, paint_col hv (by omega) h.qq, h.w, paint_col hv (by omega) h.wq, ?_, ?_, ?_⟩
  · by_cases e : v.ownBlock = some x
    · exact hl x e
    · unfold Proofs.YtcabgnikbgoikaaDoor.paint at hx
      rw [if_neg e] at hx
      exact h.top x hx
  · intro j m' v' hj h1 h2
    obtain ⟨r, hr, hq, hl⟩ := h.ll j m' v' hj h1 h2
    exact ⟨r, hr, paint_col hv (by omega) hq, hl⟩
  · intro j M v' h1 h2
    obtain ⟨hr, hq, r⟩ := h.qm j M v' h1 h2
    exact ⟨hr, paint_col hv (by omega) hq, r⟩
  · intro j M v' h1 h2
    obtain ⟨hr, hq⟩ := h.wm j M v' h1 h2
    exact ⟨hr, paint_col hv (by omega) hq⟩
theorem LxSt.fresh (h : LxSt W wr c b vl vn vq vw ld ns qs ws LQ LW) {x : Nat} (hx : wr.heap.size ≤ x) : c x = 0 := by
  by_cases e : c x = 0
  · exact e
  · have := (h.top x e).2; omega
/-- What a push at a row of colour p leaves: colours stay, and blocks of other colours too. -/
structure Pu (c c' : Nat → Nat) (p : Nat) (w w' : World) : Prop where
  col : ∀ x, c x ≠ 0 → c' x = c x
  new : ∀ x, c' x ≠ 0 → c x = 0 → c' x = p ∧ w.heap.size ≤ x
  at' : ∀ x, c x ≠ 0 → c x ≠ p → w'.heap[x]? = w.heap[x]?
theorem Pu.cols {c c' : Nat → Nat} {p q : Nat} {w w' : World} {v : Value} (h : Pu c c' p w w') (hv : Col c q v) (hq : q ≠ 0) : Col c' q v := fun x hx => by rw [h.col x (by rw [hv x hx]; exact hq)]; exact hv x hx
theorem Pu.row {c c' : Nat → Nat} {p q B : Nat} {e : TypeId} {z k : Nat} {w w' : World} {v : Value} {xs : List Value} (h : Pu c c' p w w') (hr : w.ownsRow B e z v k xs) (hv : Col c q v) (hq : q ≠ 0) (hp : q ≠ p) : w'.ownsRow B e z v k xs := owns_keep hr (fun x hx => h.at' x (by rw [hv x hx]; exact hq) (by rw [hv x hx]; exact hp))
/-- The colours behind a push. -/
def pcol (c : Nat → Nat) (v' : Value) (p : Nat) : Nat → Nat := fun x => if v'.ownBlock = some x then p else c x
theorem pu_of {v v' : Value} {p : Nat} (hp : p ≠ 0) (hl : ∀ x, c x ≠ 0 → x < wr.heap.size) (hv : Col c p v) (hg : wr.grownBy w' v.ownBlock) (ho : v'.ownBlock = v.ownBlock ∨ v'.ownBlock = some wr.heap.size) : Pu c (pcol c v' p) p wr w' := by
  have hx' : ∀ x, v'.ownBlock = some x → c x = p ∨ (c x = 0 ∧ wr.heap.size ≤ x) := fun x hx => by
    rcases ho with e | e
    · exact .inl (hv x (by rw [← e]; exact hx))
    · rw [e] at hx; cases hx
      refine .inr ⟨?_, Nat.le_refl _⟩
      by_cases e0 : c wr.heap.size = 0
      · exact e0
      · have := hl _ e0; omega
  refine ⟨fun x hx => ?_, fun x h1 h2 => ?_, fun x h1 h2 => hg.block x (hl x h1) (fun e => h2 (hv x e.symm))⟩
  · unfold pcol
    by_cases e : v'.ownBlock = some x
    · rw [if_pos e]
      rcases hx' x e with h | ⟨h, _⟩
      · exact h.symm
      · exact absurd h hx
    · rw [if_neg e]
  · unfold pcol at h1 ⊢
    by_cases e : v'.ownBlock = some x
    · rw [if_pos e]
      rcases hx' x e with h | ⟨_, h⟩
      · exact absurd (h.symm.trans h2) hp
      · exact ⟨rfl, h⟩
    · rw [if_neg e] at h1; exact absurd h2 h1
theorem LxSt.topP {p : Nat} {v' : Value} (h : LxSt W wr c b vl vn vq vw ld ns qs ws LQ LW) (hz : wr.heap.size ≤ w'.heap.size) (hl : ∀ x, v'.ownBlock = some x → W.heap.size ≤ x ∧ x < w'.heap.size) : ∀ x, pcol c v' p x ≠ 0 → W.heap.size ≤ x ∧ x < w'.heap.size := fun x hx => by
  unfold pcol at hx
  by_cases e : v'.ownBlock = some x
  · exact hl x e
  · rw [if_neg e] at hx
    have := h.top x hx
    exact ⟨this.1, by omega⟩
theorem lowP {v : Value} (hl : Below W.heap.size W wr) (hv : ∀ x, v.ownBlock = some x → W.heap.size ≤ x) (hg : wr.grownBy w' v.ownBlock) : Below W.heap.size W w' :=
  ⟨hg.os.trans hl.os, hg.tape.trans hl.tape, hg.output.trans hl.output, Nat.le_trans hl.size hg.size, fun x hx => (hg.block x (Nat.lt_of_lt_of_le hx hl.size) (fun e => by have := hv x e.symm; omega)).trans (hl.block x hx)⟩
theorem one_get8 {α : Type} (A : List α) (a : α) (j : Nat) (x : α) (h : (A ++ [a])[j]? = some x) : (A[j]? = some x ∧ j < A.length) ∨ (j = A.length ∧ x = a) := by
  by_cases hj : j < A.length
  · rw [List.getElem?_append_left hj] at h; exact .inl ⟨h, hj⟩
  · rw [List.getElem?_append_right (by omega)] at h
    by_cases h0 : j = A.length
    · subst h0; simp at h; exact .inr ⟨rfl, h.symm⟩
    · obtain ⟨d, hd⟩ : ∃ d, j - A.length = d + 1 := ⟨j - A.length - 1, by omega⟩
      rw [hd] at h; simp at h
/-- One more loud list (not told yet). -/
theorem LxSt.pushL (h : LxSt W wr c b vl vn vq vw ld ns qs ws LQ LW) (hb : b ≤ ld.length) {vl' v : Value} (hr : w'.ownsRow W.heap.size 26 1 vl' (ld ++ [v]).length (ld ++ [v])) (hg : wr.grownBy w' vl.ownBlock) (ho : vl'.ownBlock = vl.ownBlock ∨ vl'.ownBlock = some wr.heap.size) :
    LxSt W w' (pcol c vl' 1) b vl' vn vq vw (ld ++ [v]) ns qs ws LQ LW ∧ Pu c (pcol c vl' 1) 1 wr w' := by
  have P := pu_of (by omega) (fun x hx => (h.top x hx).2) h.lq hg ho
  refine ⟨⟨lowP h.low (fun x hx => (owns_lt h.l x hx).1) hg, h.topP hg.size (fun x hx => owns_lt hr x hx), hr, fun x hx => by unfold pcol; rw [if_pos hx], P.row h.n h.nq (by omega) (by omega), P.cols h.nq (by omega), P.row h.q h.qq (by omega) (by omega), P.cols h.qq (by omega), P.row h.w h.wq (by omega) (by omega), P.cols h.wq (by omega), ?_, ?_, ?_⟩, P⟩
  · intro j m v' hj h1 h2
    rcases one_get8 ld v j v' h2 with ⟨e, _⟩ | ⟨e, _⟩
    · obtain ⟨r, hr', hq, hl⟩ := h.ll j m v' hj h1 e
      exact ⟨r, P.row hr' hq (by omega) (by omega), P.cols hq (by omega), hl⟩
    · omega
  · intro j M v' h1 h2
    obtain ⟨hr', hq, r⟩ := h.qm j M v' h1 h2
    exact ⟨P.row hr' hq (by omega) (by omega), P.cols hq (by omega), r⟩
  · intro j M v' h1 h2
    obtain ⟨hr', hq⟩ := h.wm j M v' h1 h2
    exact ⟨P.row hr' hq (by omega) (by omega), P.cols hq (by omega)⟩
theorem LxSt.pushN (h : LxSt W wr c b vl vn vq vw ld ns qs ws LQ LW) (hb : b ≤ ns.length) {vn' : Value} {k : Nat} (hr : w'.ownsRow W.heap.size 3 1 vn' (ns ++ [k]).length ((ns ++ [k]).map fun k : Nat => Value.int .i64 (k : Int))) (hg : wr.grownBy w' vn.ownBlock) (ho : vn'.ownBlock = vn.ownBlock ∨ vn'.ownBlock = some wr.heap.size) :
    LxSt W w' (pcol c vn' 2) b vl vn' vq vw ld (ns ++ [k]) qs ws LQ LW ∧ Pu c (pcol c vn' 2) 2 wr w' := by
  have P := pu_of (by omega) (fun x hx => (h.top x hx).2) h.nq hg ho
  refine ⟨⟨lowP h.low (fun x hx => (owns_lt h.n x hx).1) hg, h.topP hg.size (fun x hx => owns_lt hr x hx), P.row h.l h.lq (by omega) (by omega), P.cols h.lq (by omega), hr, fun x hx => by unfold pcol; rw [if_pos hx], P.row h.q h.qq (by omega) (by omega), P.cols h.qq (by omega), P.row h.w h.wq (by omega) (by omega), P.cols h.wq (by omega), ?_, ?_, ?_⟩, P⟩
  · intro j m v' hj h1 h2
    rcases one_get8 ns k j m h1 with ⟨e, _⟩ | ⟨e, _⟩
    · obtain ⟨r, hr', hq, hl⟩ := h.ll j m v' hj e h2
      exact ⟨r, P.row hr' hq (by omega) (by omega), P.cols hq (by omega), hl⟩
    · omega
  · intro j M v' h1 h2
    obtain ⟨hr', hq, r⟩ := h.qm j M v' h1 h2
    exact ⟨P.row hr' hq (by omega) (by omega), P.cols hq (by omega), r⟩
  · intro j M v' h1 h2
    obtain ⟨hr', hq⟩ := h.wm j M v' h1 h2
    exact ⟨P.row hr' hq (by omega) (by omega), P.cols hq (by omega)⟩
theorem LxSt.pushQ (h : LxSt W wr c b vl vn vq vw ld ns qs ws LQ LW) (hql : qs.length = LQ.length) {vq' v : Value} {M : List Wd} (hr : w'.ownsRow W.heap.size 26 1 vq' (qs ++ [v]).length (qs ++ [v])) (hg : wr.grownBy w' vq.ownBlock) (ho : vq'.ownBlock = vq.ownBlock ∨ vq'.ownBlock = some wr.heap.size)
    (hv : RowW wr W.heap.size v M) (hc : Col c 5 v) (hM : M.length ≤ 65535) : LxSt W w' (pcol c vq' 3) b vl vn vq' vw ld ns (qs ++ [v]) ws (LQ ++ [M]) LW ∧ Pu c (pcol c vq' 3) 3 wr w' := by
  have P := pu_of (by omega) (fun x hx => (h.top x hx).2) h.qq hg ho
  refine ⟨⟨lowP h.low (fun x hx => (owns_lt h.q x hx).1) hg, h.topP hg.size (fun x hx => owns_lt hr x hx), P.row h.l h.lq (by omega) (by omega), P.cols h.lq (by omega), P.row h.n h.nq (by omega) (by omega), P.cols h.nq (by omega), hr, fun x hx => by unfold pcol; rw [if_pos hx], P.row h.w h.wq (by omega) (by omega), P.cols h.wq (by omega), ?_, ?_, ?_⟩, P⟩
  · intro j m v' hj h1 h2
    obtain ⟨r, hr', hq, hl⟩ := h.ll j m v' hj h1 h2
    exact ⟨r, P.row hr' hq (by omega) (by omega), P.cols hq (by omega), hl⟩
  · intro j M' v' h1 h2
    rcases one_get8 LQ M j M' h1 with ⟨e1, hj⟩ | ⟨e1, e2⟩
    · rcases one_get8 qs v j v' h2 with ⟨e3, _⟩ | ⟨e3, _⟩
      · obtain ⟨hr', hq, r⟩ := h.qm j M' v' e1 e3
        exact ⟨P.row hr' hq (by omega) (by omega), P.cols hq (by omega), r⟩
      · omega
    · rcases one_get8 qs v j v' h2 with ⟨_, e3⟩ | ⟨_, e4⟩
      · omega
      · subst e2 e4
        exact ⟨P.row hv hc (by omega) (by omega), P.cols hc (by omega), hM⟩
  · intro j M' v' h1 h2
    obtain ⟨hr', hq⟩ := h.wm j M' v' h1 h2
    exact ⟨P.row hr' hq (by omega) (by omega), P.cols hq (by omega)⟩
theorem LxSt.pushW (h : LxSt W wr c b vl vn vq vw ld ns qs ws LQ LW) (hwl : ws.length = LW.length) {vw' v : Value} {M : List Wd} (hr : w'.ownsRow W.heap.size 26 1 vw' (ws ++ [v]).length (ws ++ [v])) (hg : wr.grownBy w' vw.ownBlock) (ho : vw'.ownBlock = vw.ownBlock ∨ vw'.ownBlock = some wr.heap.size)
    (hv : RowW wr W.heap.size v M) (hc : Col c 5 v) : LxSt W w' (pcol c vw' 4) b vl vn vq vw' ld ns qs (ws ++ [v]) LQ (LW ++ [M]) ∧ Pu c (pcol c vw' 4) 4 wr w' := by
  have P := pu_of (by omega) (fun x hx => (h.top x hx).2) h.wq hg ho
  refine ⟨⟨lowP h.low (fun x hx => (owns_lt h.w x hx).1) hg, h.topP hg.size (fun x hx => owns_lt hr x hx), P.row h.l h.lq (by omega) (by omega), P.cols h.lq (by omega), P.row h.n h.nq (by omega) (by omega), P.cols h.nq (by omega), P.row h.q h.qq (by omega) (by omega), P.cols h.qq (by omega), hr, fun x hx => by unfold pcol; rw [if_pos hx], ?_, ?_, ?_⟩, P⟩
  · intro j m v' hj h1 h2
    obtain ⟨r, hr', hq, hl⟩ := h.ll j m v' hj h1 h2
    exact ⟨r, P.row hr' hq (by omega) (by omega), P.cols hq (by omega), hl⟩
  · intro j M' v' h1 h2
    obtain ⟨hr', hq, r⟩ := h.qm j M' v' h1 h2
    exact ⟨P.row hr' hq (by omega) (by omega), P.cols hq (by omega), r⟩
  · intro j M' v' h1 h2
    rcases one_get8 LW M j M' h1 with ⟨e1, hj⟩ | ⟨e1, e2⟩
    · rcases one_get8 ws v j v' h2 with ⟨e3, _⟩ | ⟨e3, _⟩
      · obtain ⟨hr', hq⟩ := h.wm j M' v' e1 e3
        exact ⟨P.row hr' hq (by omega) (by omega), P.cols hq (by omega)⟩
      · omega
    · rcases one_get8 ws v j v' h2 with ⟨_, e3⟩ | ⟨_, e4⟩
      · omega
      · subst e2 e4
        exact ⟨P.row hv hc (by omega) (by omega), P.cols hc (by omega)⟩
/-- The loud list of the round is written over: it is told. -/
theorem LxSt.told (h : LxSt W wr c b vl vn vq vw ld ns qs ws LQ LW) {v : Value} {m : Nat} (hl : ld[b]? = some v) (hn : ns[b]? = some m) (hr : RowI wr W.heap.size v (mks b m 0)) (hc : Col c (10 + b) v) (hm : m ≤ 65535) : LxSt W wr c (b + 1) vl vn vq vw ld ns qs ws LQ LW := by
  refine ⟨h.low, h.top, h.l, h.lq, h.n, h.nq, h.q, h.qq, h.w, h.wq, fun j m' v' hj h1 h2 => ?_, h.qm, h.wm⟩
  by_cases e : j = b
  · subst e
    rw [hl] at h2
    rw [hn] at h1
    cases h1; cases h2
    exact ⟨0, hr, hc, hm, by omega⟩
  · exact h.ll j m' v' (by omega) h1 h2
end
theorem parts8 {P : Program} {t : TypeId} {z : Value} {n b : Nat} (h : (P.info? t).map (fun i => (i.zero, i.size, i.bytes)) = some (some z, n, b)) : ∃ i, P.info? t = some i ∧ i.zero = some z ∧ i.size = n ∧ i.bytes = b := by
  cases hq : P.info? t with
  | none => simp [hq] at h
  | some i => simp [hq] at h; exact ⟨i, rfl, h.1, h.2.1, h.2.2⟩
theorem info_sw : (Tryd.prog.info? 26).map (fun i => (i.zero, i.size, i.bytes)) = some (some (.slice none 0 0), 1, 24) := by kernel_rfl
theorem info_in : (Tryd.prog.info? 3).map (fun i => (i.zero, i.size, i.bytes)) = some (some (.int .i64 0), 1, 8) := by kernel_rfl
theorem word_size : (Tryd.prog.info? 32).map (·.size) = some 3 := by kernel_rfl
section
variable {w : World} {ops : Array Oper} {rest : List Oper} {o : Oper} {a : Act} {Q : Exit → Act → World → Prop} {B X : Nat} {v : Value}
theorem wpList_appL8 {ls : List Value} {sv : Value} (hg : o.guard = none) (s y : Operand) (hop : o.op = Op.call { callee := Callee.builtin Builtin.append, args := #[s, y], argTypes := #[24, 24] })
    (hs : a.eval s = v) (hx : a.eval y = .slice (some ⟨X, 0, none⟩) 1 1) (hown : w.ownsRow B 26 1 v ls.length ls) (hc : w.cell? ⟨X, 0, none⟩ = some sv) (h1c : sv.oneCell' = true) (hl : ls.length < 1000000) (hB : B ≤ w.heap.size)
    (hK : ∀ v' w', w'.ownsRow B 26 1 v' (ls ++ [sv]).length (ls ++ [sv]) → w.grownBy w' v.ownBlock → (v'.ownBlock = v.ownBlock ∨ v'.ownBlock = some w.heap.size) → wpList Tryd.prog ops Q rest (a.put o.dst v') w') : wpList Tryd.prog ops Q (o :: rest) a w := by
  obtain ⟨i0, hi, hz0, hz1, hz2⟩ := parts8 info_sw
  refine wpList_append_own_at (P := Tryd.prog) w hg s y 24 hop B 26 i0 _ 1 24 Tryd.underlying24 hi hz0 hz1 hz2 rfl (by decide) v ls.length ls hs hown
    ⟨X, 0, none⟩ 1 1 [sv] hx rfl (fun j u hj => by match j, hj with | 0, hj => (simp at hj; subst hj; simpa [Addr.add] using hc)) (fun u hu => by simp at hu; subst hu; exact h1c) (by unfold maxLen; omega) (by omega) hB ?_
  intro v' w' h1 h2 _ h4
  exact hK v' w' (by rw [List.length_append]; exact h1) h2 h4
theorem wpList_appN8 {ns : List Nat} {k : Nat} (hg : o.guard = none) (s y : Operand) (hop : o.op = Op.call { callee := Callee.builtin Builtin.append, args := #[s, y], argTypes := #[25, 25] })
    (hs : a.eval s = v) (hx : a.eval y = .slice (some ⟨X, 0, none⟩) 1 1) (hown : w.ownsRow B 3 1 v ns.length (ns.map fun k : Nat => Value.int .i64 (k : Int))) (hc : w.cell? ⟨X, 0, none⟩ = some (.int .i64 (k : Int))) (hl : ns.length < 1000000) (hB : B ≤ w.heap.size)
    (hK : ∀ v' w', w'.ownsRow B 3 1 v' (ns ++ [k]).length ((ns ++ [k]).map fun k : Nat => Value.int .i64 (k : Int)) → w.grownBy w' v.ownBlock → (v'.ownBlock = v.ownBlock ∨ v'.ownBlock = some w.heap.size) → wpList Tryd.prog ops Q rest (a.put o.dst v') w') : wpList Tryd.prog ops Q (o :: rest) a w := by
  obtain ⟨i0, hi, hz0, hz1, hz2⟩ := parts8 info_in
  refine wpList_append_own_at (P := Tryd.prog) w hg s y 25 hop B 3 i0 _ 1 8 Tryd.underlying25 hi hz0 hz1 hz2 rfl (by decide) v ns.length _ hs hown
    ⟨X, 0, none⟩ 1 1 [.int .i64 (k : Int)] hx rfl (fun j u hj => by match j, hj with | 0, hj => (simp at hj; subst hj; simpa [Addr.add] using hc)) (fun u hu => by simp at hu; subst hu; rfl) (by unfold maxLen; omega) (by omega) hB ?_
  intro v' w' h1 h2 _ h4
  refine hK v' w' ?_ h2 h4
  rw [List.length_append, List.map_append]
  exact h1
/-- A word is stored within a list. -/
def putW (w : World) (g j : Nat) (k p : Int) : World := w.setCells g (j * 3) [.int .i64 k, .string no, .int .i64 p]
theorem wpList_putW {g j : Nat} {k p : Int} (hgd : o.guard = none) (y z : Operand) (ho : o.op = .store 32 y z) (hy : a.eval y = .pointer (some ⟨g, j * 3, none⟩)) (hz : a.eval z = .agg #[.int .i64 k, .string no, .int .i64 p]) (ht : w.there g (j * 3) 3)
    (h : wpList Tryd.prog ops Q rest (a.put o.dst undef) (putW w g j k p)) : wpList Tryd.prog ops Q (o :: rest) a w :=
  wpList_store_mid hgd 32 y z ho g (j * 3) #[.int .i64 k, .string no, .int .i64 p] hy hz ht word_size (by simp [Value.oneCell']) h
theorem wpList_fitW {g k cap : Nat} {xs : List Value} {p q : Int} (hg : o.guard = none) (s y : Operand) (hop : o.op = Op.call { callee := Callee.builtin Builtin.append, args := #[s, y], argTypes := #[26, 26] })
    (hs : a.eval s = .slice (some ⟨g, 0, none⟩) k cap) (hx : a.eval y = .slice (some ⟨X, 0, none⟩) 1 1) (hown : w.ownsRow B 32 3 (.slice (some ⟨g, 0, none⟩) k cap) k xs) (hc : Blk w X #[.int .i64 p, .string no, .int .i64 q] 32) (hlt : k < cap)
    (hK : ∀ w', w'.ownsRow B 32 3 (.slice (some ⟨g, 0, none⟩) (k + 1) cap) (k + 1) (xs ++ [.int .i64 p, .string no, .int .i64 q]) → w.grownBy w' (some g) → wpList Tryd.prog ops Q rest (a.put o.dst (.slice (some ⟨g, 0, none⟩) (k + 1) cap)) w') : wpList Tryd.prog ops Q (o :: rest) a w := by
  obtain ⟨i0, hi, hz0, hz1, hz2⟩ := parts8 info_word
  refine wpList_append_fits w hg s y 26 hop B 32 i0 3 Tryd.underlying26 hi hz1 g k cap xs hs hown ⟨X, 0, none⟩ 1 1 [.int .i64 p, .string no, .int .i64 q] hx rfl (fun j u hj => ?_) (fun u hu => by simp at hu; rcases hu with rfl | rfl | rfl <;> rfl) hlt hK
  have hj' : j = 0 ∨ j = 1 ∨ j = 2 := by have := (List.getElem?_eq_some_iff.1 hj).1; simp at this; omega
  have ha : (⟨X, 0, none⟩ : Addr).add j = ⟨X, j, none⟩ := by unfold Addr.add; split <;> simp_all
  rw [ha, hc.at']
  rcases hj' with rfl | rfl | rfl <;> exact hj
end
/-- A cell of a row of one's own is set. -/
theorem own_set {w : World} {B g z n cap j : Nat} {e : TypeId} {xs : List Value} {u : Value} (h : w.ownsRow B e z (.slice (some ⟨g, 0, none⟩) n cap) n xs) (hj : j < xs.length) : (w.setCell ⟨g, j, none⟩ u).ownsRow B e z (.slice (some ⟨g, 0, none⟩) n cap) n (xs.set j u) := by
  refine ⟨by rw [List.length_set]; exact h.1, ?_⟩
  rcases h.2 with ⟨e', _⟩ | ⟨g', cap', cur, e', h1, h2, h3, h4, h5, h6⟩
  · cases e'
  · cases e'
    refine .inr ⟨g, cap, _, rfl, h1, heap_setCell_same w g j cur e u h2, h3, h4, by simpa using h5, ?_⟩
    rw [← h6, Array.toList_setIfInBounds, List.take_set]
theorem set_grown (w : World) (g j : Nat) (u : Value) : Ch8 (· = g) w (w.setCell ⟨g, j, none⟩ u) := by
  have h := grown_set w g j u
  exact ⟨h.os, h.tape, h.output, h.size, fun x hx hn => h.block x hx (fun e => hn (by cases e; rfl))⟩
theorem Ch8.trans {m : Nat → Prop} {w w' w'' : World} (h : Ch8 m w w') (h' : Ch8 m w' w'') : Ch8 m w w'' := ⟨h'.os.trans h.os, h'.tape.trans h.tape, h'.output.trans h.output, Nat.le_trans h.size h'.size, fun x hx hn => (h'.block x (Nat.lt_of_lt_of_le hx h.size) hn).trans (h.block x hx hn)⟩
theorem Ch8.wide {m m' : Nat → Prop} {w w' : World} (h : Ch8 m w w') (hm : ∀ x, m x → m' x) : Ch8 m' w w' := ⟨h.os, h.tape, h.output, h.size, fun x hx hn => h.block x hx (fun e => hn (hm x e))⟩
theorem putW_chg (w : World) (g j : Nat) (k p : Int) : Ch8 (· = g) w (putW w g j k p) := by
  unfold putW
  simp only [World.setCells]
  exact ((set_grown w g _ _).trans (set_grown _ g _ _)).trans (set_grown _ g _ _)
theorem own_put {w : World} {B g n cap j : Nat} {xs : List Value} {k p : Int} (h : w.ownsRow B 32 3 (.slice (some ⟨g, 0, none⟩) n cap) n xs) (hj : j < n) : (putW w g j k p).ownsRow B 32 3 (.slice (some ⟨g, 0, none⟩) n cap) n (((xs.set (j * 3) (.int .i64 k)).set (j * 3 + 1) (.string no)).set (j * 3 + 2) (.int .i64 p)) := by
  have hl := h.1
  unfold putW
  simp only [World.setCells]
  exact own_set (own_set (own_set h (by omega)) (by simp; omega)) (by simp; omega)
theorem own_there {w : World} {B g n cap j : Nat} {xs : List Value} (h : w.ownsRow B 32 3 (.slice (some ⟨g, 0, none⟩) n cap) n xs) (hj : j < n) : w.there g (j * 3) 3 := by
  rcases h.2 with ⟨e', _⟩ | ⟨g', cap', cur, e', h1, h2, h3, h4, h5, h6⟩
  · cases e'
  · cases e'
    intro i hi
    refine ⟨?_, frozen_of_row w g _ cur _ h2⟩
    rw [cell_of_row w g _ cur _ _ h2, Array.getElem?_eq_getElem (by omega)]
    rfl
/-- The list of the round while it is written over. -/
def mix8 (b : Nat) (M : List Wd) (j : Nat) : List Value := flatI (List.replicate j (-1 - (b : Int), 0)) ++ flatW (M.drop j)
theorem mix_len (b : Nat) (M : List Wd) (j : Nat) (hj : j ≤ M.length) : (mix8 b M j).length = M.length * 3 := by
  unfold mix8
  rw [List.length_append, flatI_len, flatW_len, List.length_replicate, List.length_drop]
  omega
theorem mix_zero (b : Nat) (M : List Wd) : mix8 b M 0 = flatW M := by simp [mix8, flatI]
theorem mix_all (b : Nat) (M : List Wd) : mix8 b M M.length = flatI (mks b M.length 0) := by simp [mix8, mks, flatW]
theorem set3 {α : Type} (R : List α) (x y z a b c : α) : ∀ A : List α, (((A ++ (x :: y :: z :: R)).set A.length a).set (A.length + 1) b).set (A.length + 2) c = A ++ (a :: b :: c :: R)
  | [] => rfl
  | h :: t => by
    have e2 : (h :: t).length + 2 = (t.length + 2) + 1 := by simp
    have e1 : (h :: t).length + 1 = (t.length + 1) + 1 := by simp
    have e0 : (h :: t).length = t.length + 1 := rfl
    rw [e2, e1, e0, List.cons_append, List.set_cons_succ, List.set_cons_succ, List.set_cons_succ, set3 R x y z a b c t, List.cons_append]
theorem mix_step (b : Nat) (M : List Wd) (j : Nat) (hj : j < M.length) : (((mix8 b M j).set (j * 3) (.int .i64 (-1 - (b : Int)))).set (j * 3 + 1) (.string no)).set (j * 3 + 2) (.int .i64 0) = mix8 b M (j + 1) := by
  unfold mix8
  rw [List.drop_eq_getElem_cons hj, flatW_cons, List.replicate_succ', flatI_app]
  generalize hA : flatI (List.replicate j (-1 - (b : Int), (0 : Int))) = A
  have hl : A.length = j * 3 := by rw [← hA, flatI_len, List.length_replicate]
  rw [← hl]
  rw [show ([Value.int IntKind.i64 M[j].kind, Value.string (ba M[j].text), Value.int IntKind.i64 M[j].at'] ++ flatW (M.drop (j + 1))) = Value.int IntKind.i64 M[j].kind :: Value.string (ba M[j].text) :: Value.int IntKind.i64 M[j].at' :: flatW (M.drop (j + 1)) from rfl, set3]
  simp [flatI]
section
variable {W wr w' : World} {c : Nat → Nat} {b : Nat} {vl vn vq vw : Value} {ld : List Value} {ns : List Nat} {qs ws : List Value} {LQ LW : List (List Wd)}
/-- A loud list has grown, and its header is stored anew. -/
theorem LxSt.grow {gl cl i g m r cap : Nat} (h : LxSt W wr c b (.slice (some ⟨gl, 0, none⟩) ld.length cl) vn vq vw ld ns qs ws LQ LW) (hi : i < b) (hn : ns[i]? = some m) (hil : i < ld.length) (hg : c g = 10 + i) (hm : m ≤ 65535) (hr : m + r + 1 ≤ 140000)
    {w1 : World} (h1 : Ch8 (· = g) wr w1) (hrow : RowI w1 W.heap.size (.slice (some ⟨g, 0, none⟩) (m + r + 1) cap) (mks i m (r + 1))) :
    LxSt W (w1.setCell ⟨gl, i, none⟩ (.slice (some ⟨g, 0, none⟩) (m + r + 1) cap)) c b (.slice (some ⟨gl, 0, none⟩) (ld.set i (.slice (some ⟨g, 0, none⟩) (m + r + 1) cap)).length cl) vn vq vw (ld.set i (.slice (some ⟨g, 0, none⟩) (m + r + 1) cap)) ns qs ws LQ LW := by
  have hgl : c gl = 1 := h.lq gl rfl
  have hc := (h1.wide (m' := fun x => x = g ∨ x = gl) (fun x e => .inl e)).trans ((set_grown w1 gl i (.slice (some ⟨g, 0, none⟩) (m + r + 1) cap)).wide (fun x e => .inr e))
  have hk : ∀ x, c x ≠ 0 → c x ≠ 10 + i → c x ≠ 1 → (w1.setCell ⟨gl, i, none⟩ (.slice (some ⟨g, 0, none⟩) (m + r + 1) cap)).heap[x]? = wr.heap[x]? := fun x h0 hx1 hx2 => hc.block x (h.top x h0).2 (fun e => by
    rcases e with rfl | rfl
    · exact hx1 hg
    · exact hx2 hgl)
  have hrw : ∀ (q : Nat) (v : Value), q ≠ 0 → q ≠ 10 + i → q ≠ 1 → Col c q v → ∀ x, v.ownBlock = some x → (w1.setCell ⟨gl, i, none⟩ (.slice (some ⟨g, 0, none⟩) (m + r + 1) cap)).heap[x]? = wr.heap[x]? := fun q v h0 h1 h2 hcol x hx => hk x (by rw [hcol x hx]; exact h0) (by rw [hcol x hx]; exact h1) (by rw [hcol x hx]; exact h2)
  have hsz := h.low.size
  have hl1 : w1.ownsRow W.heap.size 26 1 (.slice (some ⟨gl, 0, none⟩) ld.length cl) ld.length ld := owns_keep h.l (fun x hx => by cases hx; exact h1.block gl (owns_lt h.l gl rfl).2 (fun e => by rw [e, hg] at hgl; omega))
  refine ⟨⟨hc.os.trans h.low.os, hc.tape.trans h.low.tape, hc.output.trans h.low.output, Nat.le_trans h.low.size hc.size, fun x hx => (hc.block x (by omega) (fun e => by
      rcases e with rfl | rfl
      · have := (h.top x (by rw [hg]; omega)).1; omega
      · have := (h.top x (by rw [hgl]; omega)).1; omega)).trans (h.low.block x hx)⟩,
    fun x hx => ⟨(h.top x hx).1, Nat.lt_of_lt_of_le (h.top x hx).2 hc.size⟩, ?_, fun x hx => by cases hx; exact hgl, owns_keep h.n (hrw 2 _ (by omega) (by omega) (by omega) h.nq), h.nq, owns_keep h.q (hrw 3 _ (by omega) (by omega) (by omega) h.qq), h.qq, owns_keep h.w (hrw 4 _ (by omega) (by omega) (by omega) h.wq), h.wq, ?_, ?_, ?_⟩
  · rw [List.length_set]; exact own_set hl1 hil
  · intro j m' v hj h2 h3
    by_cases e : j = i
    · subst e
      rw [hn] at h2
      cases h2
      rw [List.getElem?_set_self hil] at h3
      cases h3
      refine ⟨r + 1, owns_keep hrow (fun x hx => by cases hx; exact (set_grown w1 gl j _).block g (owns_lt hrow g rfl).2 (fun e => by rw [e] at hg; omega)), fun x hx => by cases hx; exact hg, hm, by omega⟩
    · rw [List.getElem?_set_ne (fun e' => e e'.symm)] at h3
      obtain ⟨r', hr', hq, hl⟩ := h.ll j m' v hj h2 h3
      exact ⟨r', owns_keep hr' (hrw _ _ (by omega) (by omega) (by omega) hq), hq, hl⟩
  · intro j M v h2 h3
    obtain ⟨hr', hq, hl⟩ := h.qm j M v h2 h3
    exact ⟨owns_keep hr' (hrw _ _ (by omega) (by omega) (by omega) hq), hq, hl⟩
  · intro j M v h2 h3
    obtain ⟨hr', hq⟩ := h.wm j M v h2 h3
    exact ⟨owns_keep hr' (hrw _ _ (by omega) (by omega) (by omega) hq), hq⟩
theorem own1_get {w : World} {B : Nat} {e : TypeId} {a : Option Addr} {l c : Nat} {xs : List Value} (h : w.ownsRow B e 1 (.slice a l c) xs.length xs) {j : Nat} {v : Value} (hj : xs[j]? = some v) : ∃ g, a = some ⟨g, 0, none⟩ ∧ w.cell? ⟨g, j, none⟩ = some v ∧ w.frozen? ⟨g, j, none⟩ = false ∧ g < w.heap.size ∧ l ≤ c := by
  rcases h.2 with ⟨e, h0⟩ | ⟨g, cap, cur, e, _, hr, hc, _, hz, ht⟩
  · have := (List.getElem?_eq_some_iff.1 hj).1; omega
  · cases e
    refine ⟨g, rfl, ?_, frozen_of_row w g _ cur _ hr, (Array.getElem?_eq_some_iff.1 hr).1, hc⟩
    rw [cell_of_row w g _ cur _ _ hr, ← Array.getElem?_toList]
    rw [← ht, List.getElem?_take] at hj
    split at hj
    · exact hj
    · cases hj
theorem own_len {w : World} {B : Nat} {e : TypeId} {z : Nat} {a : Option Addr} {l c k : Nat} {xs : List Value} (h : w.ownsRow B e z (.slice a l c) k xs) : l = k := by
  rcases h.2 with ⟨e, h0⟩ | ⟨g, cap, cur, e, _⟩
  · cases e; exact h0.symm
  · cases e; rfl
end
def lenV : Value → Nat
  | .slice _ l _ => l
  | _ => 0
def lenAt (w : World) (G m : Nat) : Nat := match w.cell? ⟨G, m, none⟩ with
  | some (.slice _ n _) => n
  | _ => 0
theorem lenAt_of {w : World} {G m n c : Nat} {a : Option Addr} (h : w.cell? ⟨G, m, none⟩ = some (.slice a n c)) : lenAt w G m = n := by unfold lenAt; rw [h]
set_option maxHeartbeats 1000000 in
theorem room_yes (n a : Nat) (hn : n ≤ 65535) (h : n + 70000 < a) : CallIs 8 #[.int .i64 n, .int .i64 a] (.int .i64 ((n + 70000 : Nat) : Int)) := by
  intro w
  have h1 : (a : Int) > (n : Int) + 70000 := by omega
  have h2 : (n : Int) ≤ 65535 := by omega
  have e : Hid (((n + 70000 : Nat) : Int) = (n : Int) + 70000) := hide (by omega)
  rw [e.out]
  go_enter Tryd.func8, Tryd.ntmps8
  go_wp2_with fail
  go_ret
  exact ⟨rfl, by go_grown⟩
set_option maxHeartbeats 1000000 in
theorem room_no (n a : Nat) (hn : n ≤ 65535) (h : ¬ n + 70000 < a) : CallIs 8 #[.int .i64 n, .int .i64 a] (.int .i64 a) := by
  intro w
  have h1 : ¬ (a : Int) > (n : Int) + 70000 := by omega
  have h2 : (n : Int) ≤ 65535 := by omega
  go_enter Tryd.func8, Tryd.ntmps8
  go_wp2_with fail
  go_ret
  exact ⟨rfl, by go_grown⟩
theorem room_any (n a : Nat) (hn : n ≤ 65535) (ha : n ≤ a) : ∃ r : Nat, CallIs 8 #[.int .i64 n, .int .i64 a] (.int .i64 r) ∧ n ≤ r ∧ r ≤ a ∧ r ≤ 135535 := by
  by_cases h : n + 70000 < a
  · exact ⟨n + 70000, room_yes n a hn h, by omega, by omega, by omega⟩
  · exact ⟨a, room_no n a hn h, ha, Nat.le_refl _, by omega⟩
theorem flatI_get (l : List (Int × Int)) (j : Nat) (h : j < l.length) : (flatI l)[j * 3]? = some (.int .i64 l[j].1) ∧ (flatI l)[j * 3 + 1]? = some (.string no) ∧ (flatI l)[j * 3 + 2]? = some (.int .i64 l[j].2) := by
  induction l generalizing j with
  | nil => exact absurd h (Nat.not_lt_zero j)
  | cons x l ih =>
    have hx : flatI (x :: l) = [.int .i64 x.1, .string no, .int .i64 x.2] ++ flatI l := rfl
    rw [hx]
    cases j with
    | zero => exact ⟨rfl, rfl, rfl⟩
    | succ j =>
      obtain ⟨h1, h2, h3⟩ := ih j (by simpa using h)
      refine ⟨?_, ?_, ?_⟩
      · rw [List.getElem?_append_right (by simp; omega), show (j + 1) * 3 - _ = j * 3 by simp; omega]; exact h1
      · rw [List.getElem?_append_right (by simp; omega), show (j + 1) * 3 + 1 - _ = j * 3 + 1 by simp; omega]; exact h2
      · rw [List.getElem?_append_right (by simp; omega), show (j + 1) * 3 + 2 - _ = j * 3 + 2 by simp; omega]; exact h3
theorem mks_get? (j m r k : Nat) (h : k < m + r) : (mks j m r)[k]? = some (-1 - (j : Int), if k < m then 0 else 1) := by
  unfold mks
  by_cases hk : k < m
  · rw [List.getElem?_append_left (by simpa using hk), List.getElem?_replicate, if_pos hk, if_pos hk]
  · rw [List.getElem?_append_right (by simpa using hk), List.getElem?_replicate, List.length_replicate, if_pos (by omega), if_neg hk]
theorem mks_get (j m r k : Nat) (h : k < (mks j m r).length) : (mks j m r)[k] = (-1 - (j : Int), if k < m then 0 else 1) :=
  (List.getElem?_eq_some_iff.1 (mks_get? j m r k (by rwa [mks_len] at h))).2
/-- The k-th mark of a loud list. -/
theorem mark_at {w : World} {B j m r k l c : Nat} {a : Option Addr} (h : RowI w B (.slice a l c) (mks j m r)) (hk : k < m + r) : ∃ g, a = some ⟨g, 0, none⟩ ∧ w.cell? ⟨g, k * 3, none⟩ = some (.int .i64 (-1 - (j : Int))) ∧ w.cell? ⟨g, k * 3 + 1, none⟩ = some (.string no) ∧ w.cell? ⟨g, k * 3 + 2, none⟩ = some (.int .i64 (if k < m then 0 else 1)) := by
  have hl : k < (mks j m r).length := by rw [mks_len]; exact hk
  rcases h.2 with ⟨e, hn⟩ | ⟨g, cap, cur, e, _⟩
  · omega
  · have : a = some ⟨g, 0, none⟩ := by cases e; rfl
    subst this
    obtain ⟨f1, f2, f3⟩ := flatI_get (mks j m r) k hl
    rw [mks_get j m r k hl] at f1 f3
    have ha : ∀ k, (⟨g, 0, none⟩ : Addr).add k = ⟨g, k, none⟩ := fun k => by unfold Addr.add; split <;> simp_all
    have c1 := World.ownsRow.cells h (g := g) rfl _ _ f1
    have c2 := World.ownsRow.cells h (g := g) rfl _ _ f2
    have c3 := World.ownsRow.cells h (g := g) rfl _ _ f3
    rw [ha] at c1 c2 c3
    exact ⟨g, rfl, c1, c2, c3⟩
theorem wpList_store_new8 {P : Program} {ops : Array Oper} {rest : List Oper} {op : Oper} {a : Act} {w : World} {Q : Exit → Act → World → Prop} (hgd : op.guard = none) (ty : TypeId) (x y : Operand) (ho : op.op = .store ty x y)
    (c c' : Array Value) (g : Nat) (hx : a.eval x = .pointer (some ⟨g, 0, none⟩)) (hgw : g = w.heap.size) (hy : a.eval y = .agg c') (hi : (P.info? ty).map (·.size) = some c'.size) (hc : c.size = c'.size) (h1 : c'.all (·.oneCell') = true)
    (h : wpList P ops Q rest (a.put op.dst undef) (w.alloc (.cells c' ty))) : wpList P ops Q (op :: rest) a (w.alloc (.cells c ty)) :=
  wpList_plain hgd fun _ hK => by
    subst hgw
    unfold Oper.wp execOp
    simp only [ho, hx, hy, Sem.run_bind, run_storeAt_new (P := P) w ty c c' hi hc h1, Result.andThen_ok]
    exact hK _ _ h
section
variable {W wr w' : World} {c : Nat → Nat} {n q : Nat} {a4 a5 a6 a7 : Option Addr} {c4 c5 c6 c7 : Nat} {ld : List Value} {ns : List Nat} {qs ws : List Value} {QL : List (List Wd)}
/-- The i-th loud list. -/
theorem loud_at {i : Nat} (h : LxSt W wr c n (.slice a4 n c4) (.slice a7 n c7) (.slice a5 q c5) (.slice a6 q c6) ld ns qs ws QL QL) (hl : ld.length = n) (hn : ns.length = n) (hi : i < n) :
    ∃ gl g7 m r ag cg, a4 = some ⟨gl, 0, none⟩ ∧ a7 = some ⟨g7, 0, none⟩ ∧ ld[i]? = some (.slice ag (m + r) cg) ∧ ns[i]? = some m ∧ wr.cell? ⟨gl, i, none⟩ = some (.slice ag (m + r) cg) ∧ wr.cell? ⟨g7, i, none⟩ = some (.int .i64 (m : Int)) ∧ n ≤ c4 ∧ n ≤ c7 ∧ RowI wr W.heap.size (.slice ag (m + r) cg) (mks i m r) ∧ Col c (10 + i) (.slice ag (m + r) cg) ∧ m ≤ 65535 ∧ m + r ≤ 140000 ∧ m + r ≤ cg := by
  obtain ⟨v, hv⟩ : ∃ v, ld[i]? = some v := ⟨_, List.getElem?_eq_getElem (by omega)⟩
  obtain ⟨m, hm⟩ : ∃ m, ns[i]? = some m := ⟨_, List.getElem?_eq_getElem (by omega)⟩
  obtain ⟨r, hr, hc, hm5, hr5⟩ := h.ll i m v hi hm hv
  obtain ⟨ag, cg, e⟩ := row_slice hr
  rw [mks_len] at e
  subst e
  obtain ⟨gl, e1, x1, _, _, l1⟩ := own1_get h.l hv
  have h7 := h.n
  obtain ⟨g7, e7, x7, _, _, l7⟩ := own1_get (xs := ns.map fun k : Nat => Value.int .i64 (k : Int)) (by rw [List.length_map]; exact h7) (show (ns.map fun k : Nat => Value.int .i64 (k : Int))[i]? = some (.int .i64 (m : Int)) by rw [List.getElem?_map, hm]; rfl)
  have hle : m + r ≤ cg := by
    rcases hr.2 with ⟨e, h0⟩ | ⟨g, cap, cur, e, _, _, h3, _⟩
    · rw [mks_len] at h0
      omega
    · rw [mks_len] at h3
      simp only [Value.slice.injEq] at e
      obtain ⟨_, _, rfl⟩ := e
      exact h3
  exact ⟨gl, g7, m, r, ag, cg, e1, e7, hv, hm, x1, x7, l1, l7, hr, hc, hm5, hr5, hle⟩
theorem quiet_at {i : Nat} (h : LxSt W wr c n (.slice a4 n c4) (.slice a7 n c7) (.slice a5 q c5) (.slice a6 q c6) ld ns qs ws QL QL) (hq : qs.length = q) (hw : ws.length = q) (hQ : QL.length = q) (hi : i < q) :
    ∃ g5 g6 M a1 c1 a2 c2, a5 = some ⟨g5, 0, none⟩ ∧ a6 = some ⟨g6, 0, none⟩ ∧ wr.cell? ⟨g5, i, none⟩ = some (.slice a1 M.length c1) ∧ wr.cell? ⟨g6, i, none⟩ = some (.slice a2 M.length c2) ∧ q ≤ c5 ∧ q ≤ c6 ∧ RowW wr W.heap.size (.slice a1 M.length c1) M ∧ RowW wr W.heap.size (.slice a2 M.length c2) M ∧ M.length ≤ 65535 := by
  obtain ⟨v, hv⟩ : ∃ v, qs[i]? = some v := ⟨_, List.getElem?_eq_getElem (by omega)⟩
  obtain ⟨v', hv'⟩ : ∃ v, ws[i]? = some v := ⟨_, List.getElem?_eq_getElem (by omega)⟩
  obtain ⟨M, hM⟩ : ∃ v, QL[i]? = some v := ⟨_, List.getElem?_eq_getElem (by omega)⟩
  obtain ⟨r1, _, l1⟩ := h.qm i M v hM hv
  obtain ⟨r2, _⟩ := h.wm i M v' hM hv'
  obtain ⟨b1, d1, rfl⟩ := row_slice r1
  obtain ⟨b2, d2, rfl⟩ := row_slice r2
  obtain ⟨g5, e5, x5, _, _, l5⟩ := own1_get h.q hv
  obtain ⟨g6, e6, x6, _, _, l6⟩ := own1_get h.w hv'
  exact ⟨g5, g6, M, b1, d1, b2, d2, e5, e6, x5, x6, l5, l6, r1, r2, l1⟩
theorem loud_at' {i : Nat} (h : LxSt W wr c n (.slice a4 n c4) (.slice a7 n c7) (.slice a5 q c5) (.slice a6 q c6) ld ns qs ws QL QL) (hl : ld.length = n) (hn : ns.length = n) (hi : i < n) :
    ∃ gl g7 m r lq ag cg, lq = m + r ∧ a4 = some ⟨gl, 0, none⟩ ∧ a7 = some ⟨g7, 0, none⟩ ∧ ld[i]? = some (.slice ag lq cg) ∧ ns[i]? = some m ∧ wr.cell? ⟨gl, i, none⟩ = some (.slice ag lq cg) ∧ wr.cell? ⟨g7, i, none⟩ = some (.int .i64 (m : Int)) ∧ n ≤ c4 ∧ n ≤ c7 ∧ RowI wr W.heap.size (.slice ag lq cg) (mks i m r) ∧ Col c (10 + i) (.slice ag lq cg) ∧ m ≤ 65535 ∧ lq ≤ 140000 ∧ lq ≤ cg := by
  obtain ⟨gl, g7, m, r, ag, cg, h1, h2, h3, h4, h5, h6, h7, h8, h9, h10, h11, h12, h13⟩ := loud_at h hl hn hi
  exact ⟨gl, g7, m, r, m + r, ag, cg, rfl, h1, h2, h3, h4, h5, h6, h7, h8, h9, h10, h11, h12, h13⟩
/-- The loud list that is grown. -/
theorem grow_at {i gl m r lq cg rr : Nat} {ag : Option Addr} (h : LxSt W wr c n (.slice (some ⟨gl, 0, none⟩) n c4) (.slice a7 n c7) (.slice a5 q c5) (.slice a6 q c6) ld ns qs ws QL QL) (hi : i < n) (hm : ns[i]? = some m) (hv : ld[i]? = some (.slice ag lq cg)) (hlq : lq = m + r) (hlt : lq < rr) (hrc : rr ≤ cg) :
    ∃ g, ag = some ⟨g, 0, none⟩ ∧ wr.ownsRow W.heap.size 32 3 (.slice (some ⟨g, 0, none⟩) lq cg) lq (flatI (mks i m r)) ∧ c g = 10 + i ∧ m ≤ 65535 := by
  obtain ⟨r', hr, hc, hm5, _⟩ := h.ll i m _ hi hm hv
  have hl := own_len hr
  rw [mks_len] at hl
  obtain rfl : r' = r := by omega
  rcases hr.2 with ⟨e, _⟩ | ⟨g, cap, cur, e, _⟩
  · cases e; omega
  · have ha : ag = some ⟨g, 0, none⟩ := by simp only [Value.slice.injEq] at e; exact e.1
    subst ha
    refine ⟨g, rfl, ?_, hc g rfl, hm5⟩
    have hr' := hr
    unfold RowI at hr'
    rw [mks_len, ← hlq] at hr'
    exact hr'
theorem loud_cell {i gl : Nat} {v : Value} (h : LxSt W wr c n (.slice (some ⟨gl, 0, none⟩) n c4) (.slice a7 n c7) (.slice a5 q c5) (.slice a6 q c6) ld ns qs ws QL QL) (hv : ld[i]? = some v) : wr.cell? ⟨gl, i, none⟩ = some v := by
  obtain ⟨g, e, x, _⟩ := own1_get h.l hv
  cases e; exact x
theorem lx_grow {i gl g m r lq cg : Nat} (h : LxSt W wr c n (.slice (some ⟨gl, 0, none⟩) n c4) (.slice a7 n c7) (.slice a5 q c5) (.slice a6 q c6) ld ns qs ws QL QL) (hl : ld.length = n) (hi : i < n) (hm : ns[i]? = some m) (hg : c g = 10 + i) (hm5 : m ≤ 65535) (hlq : lq = m + r) (hb : lq < 139999)
    {w1 : World} {o : Obj} (h1 : (wr.alloc o).grownBy w1 (some g)) (hrow : w1.ownsRow W.heap.size 32 3 (.slice (some ⟨g, 0, none⟩) (lq + 1) cg) (lq + 1) (flatI (mks i m r) ++ [.int .i64 (-1 - (i : Int)), .string no, .int .i64 1])) :
    LxSt W (w1.setCell ⟨gl, i, none⟩ (.slice (some ⟨g, 0, none⟩) (lq + 1) cg)) c n (.slice (some ⟨gl, 0, none⟩) n c4) (.slice a7 n c7) (.slice a5 q c5) (.slice a6 q c6) (ld.set i (.slice (some ⟨g, 0, none⟩) (lq + 1) cg)) ns qs ws QL QL ∧ (∀ v, wr.cell? ⟨gl, i, none⟩ = some v → w1.cell? ⟨gl, i, none⟩ = some v) ∧ w1.frozen? ⟨gl, i, none⟩ = false ∧ lenAt (w1.setCell ⟨gl, i, none⟩ (.slice (some ⟨g, 0, none⟩) (lq + 1) cg)) gl i = lq + 1 := by
  subst hl
  subst hlq
  have hch : Ch8 (· = g) wr w1 := ⟨h1.os, h1.tape, h1.output, by have := h1.size; simp at this; omega, fun x hx hn => (h1.block x (by simp; omega) (fun e => hn (by cases e; rfl))).trans (Below.heap_alloc wr o x hx)⟩
  have hne : gl ≠ g := fun e => by have := h.lq gl rfl; rw [e, hg] at this; omega
  have hgl := (owns_lt h.l gl rfl).2
  have hkp : w1.heap[gl]? = wr.heap[gl]? := hch.block gl hgl hne
  have S := h.grow (r := r) (cap := cg) hi hm hi hg hm5 (by omega) hch (by unfold RowI; rw [mks_len, mks_more, flatI_app]; exact hrow)
  rw [List.length_set] at S
  refine ⟨S, fun v hv => ?_, ?_, ?_⟩
  · rw [← hv]; unfold World.cell?; simp only [hkp]
  · rcases h.l.2 with ⟨e, _⟩ | ⟨g', cap', cur, e, _, hr, _⟩
    · cases e
    · cases e; exact frozen_of_row w1 gl _ cur _ (hkp.trans hr)
  · refine lenAt_of (a := some ⟨g, 0, none⟩) (c := cg) ?_
    obtain ⟨g', e, x, _⟩ := own1_get S.l (j := i) (v := .slice (some ⟨g, 0, none⟩) (m + r + 1) cg) (by rw [List.getElem?_set_self hi])
    cases e; exact x
theorem set_len {i : Nat} {v : Value} (h : ∀ (j : Nat) (v : Value), i < j → ld[j]? = some v → lenV v ≤ 65535) : ∀ (j : Nat) (v' : Value), i < j → (ld.set i v)[j]? = some v' → lenV v' ≤ 65535 := fun j v' hj hv => h j v' hj (by rwa [List.getElem?_set_ne (by omega)] at hv)
end
/-- The words of a text, none where it is wrong. -/
def wds (s : ByteArray) : List Wd := match cutR s with
  | .ok l => l
  | .bad _ _ => []
theorem wds_len (s : ByteArray) : (wds s).length ≤ 65535 := by
  unfold wds
  split
  · rename_i l h; exact cutR_len h
  · exact Nat.zero_le _
theorem cut_any {w w' : World} {s : ByteArray} {e : Ending} (h : CutP w w' (cutR s) e) : ∃ a c p q, e = .returned (.tuple #[.slice a (wds s).length c, .int .i64 p, .int .i64 q]) ∧ RowW w' w.heap.size (.slice a (wds s).length c) (wds s) ∧ Below w.heap.size w w' := by
  unfold wds
  obtain ⟨hb, h⟩ := h
  split
  · rename_i l hl
    rw [hl] at h
    obtain ⟨v, rfl, hr⟩ := h
    obtain ⟨a, c, rfl⟩ := row_slice hr
    exact ⟨a, c, 0, 0, rfl, hr, hb⟩
  · rename_i i x hl
    rw [hl] at h
    exact ⟨none, 0, i, x, h, RowW.nil _ _, hb⟩
theorem row_in {w : World} {B : Nat} {a : Option Addr} {l : List Wd} {c : Nat} (h : RowW w B (.slice a l.length c) l) (hl : l.length ≤ 65535) : WordsIn w a l := by
  obtain ⟨a', c', e, hw⟩ := row_words h (by omega)
  cases e
  exact hw
theorem eq_rows {w : World} {B B' : Nat} {a a' : Option Addr} {l : List Wd} {c c' : Nat} (h : RowW w B (.slice a l.length c) l) (h' : RowW w B' (.slice a' l.length c') l) (hl : l.length ≤ 65535) : Calls Tryd.prog 7 #[.slice a l.length c, .slice a' l.length c'] w fun e w' => e = .returned (.bool true) ∧ Below w.heap.size w w' := eq_same c c' (row_in h hl) (row_in h' hl)
theorem ms8 {l k : Nat} (h : k < l) : l - (intOf (.int .i64 ((k : Int) + 1))).toNat < l - (intOf (.int .i64 (k : Int))).toNat := by
  show l - ((k : Int) + 1).toNat < l - (k : Int).toNat
  omega
theorem up8 {k l m : Nat} (h : k < l) (hm : l ≤ m) (h2 : m ≤ 1000000) : wrap64 ((k : Int) + 1) = (k : Int) + 1 := IntWalk.wrap64_in ((k : Int) + 1) ⟨by omega, by omega⟩
theorem ltc {a b : Nat} (h : a < b) : (a : Int) < (b : Int) := by omega
theorem nltc {a b : Nat} (h : ¬ a < b) : ¬ (a : Int) < (b : Int) := by omega
theorem size1 (w : World) (o : Obj) : (w.alloc o).heap.size = w.heap.size + 1 := by simp
/-- The counts that the loops keep. -/
structure Cn (n q N : Nat) (ld qs ws : List Value) (ns : List Nat) (QL : List (List Wd)) : Prop where
  f1 : ld.length = n
  f2 : ns.length = n
  f3 : qs.length = q
  f4 : ws.length = q
  f5 : QL.length = q
  f6 : n ≤ N
  f7 : q ≤ 2 * N
  f8 : N ≤ 300
  f9 : ∀ v ∈ ld, lenV v ≤ 65535
theorem Cn.le {n q N : Nat} {ld qs ws : List Value} {ns : List Nat} {QL : List (List Wd)} (h : Cn n q N ld qs ws ns QL) : ld.length < 1000000 ∧ ns.length < 1000000 ∧ qs.length < 1000000 ∧ ws.length < 1000000 := by
  obtain ⟨h1, h2, h3, h4, h5, h6, h7, h8, _⟩ := h
  omega
section
variable {W wr w' : World} {c : Nat → Nat} {b : Nat} {vl vn vq vw : Value} {ld : List Value} {ns : List Nat} {qs ws : List Value} {LQ LW : List (List Wd)}
/-- A new list is painted. -/
theorem lx_take (h : LxSt W wr c b vl vn vq vw ld ns qs ws LQ LW) (hb : Below wr.heap.size wr w') {v : Value} {M : List Wd} (hr : RowW w' wr.heap.size v M) (q : Nat) (hq : q ≠ 0) :
    LxSt W w' (paint c v q) b vl vn vq vw ld ns qs ws LQ LW ∧ RowW w' W.heap.size v M ∧ Col (paint c v q) q v ∧ (∀ v' q', q' ≠ 0 → Col c q' v' → Col (paint c v q) q' v') := by
  have hW := h.low.size
  have hv : ∀ y, v.ownBlock = some y → c y = 0 := fun y hy => h.fresh (owns_lt hr y hy).1
  exact ⟨(h.below hb).paint hv (fun y hy => by have := owns_lt hr y hy; omega), owns_base hr hW, paint_self, fun v' q' hq' hc => paint_col hv hq' hc⟩
theorem lx_lay (h : LxSt W wr c b vl vn vq vw ld ns qs ws LQ LW) (hL : Lay8 W) : Lay8 wr := hL.keep h.low
theorem Cn.up {n q N : Nat} {QL : List (List Wd)} (h : Cn n q N ld qs ws ns QL) (hN : N < 300) : Cn n q (N + 1) ld qs ws ns QL := ⟨h.f1, h.f2, h.f3, h.f4, h.f5, Nat.le_succ_of_le h.f6, by have := h.f7; omega, hN, h.f9⟩
theorem Cn.pushL {n q N : Nat} {QL : List (List Wd)} {v : Value} {m : Nat} (h : Cn n q (N + 1) ld qs ws ns QL) (hn : n ≤ N) (hv : lenV v ≤ 65535) : Cn (n + 1) q (N + 1) (ld ++ [v]) qs ws (ns ++ [m]) QL := ⟨by simp [h.f1], by simp [h.f2], h.f3, h.f4, h.f5, by omega, h.f7, h.f8, fun x hx => by
  rcases List.mem_append.1 hx with hx | hx
  · exact h.f9 x hx
  · simp at hx; subst hx; exact hv⟩
theorem Cn.pushQ {n q N : Nat} {QL : List (List Wd)} {v v' : Value} {M : List Wd} (h : Cn n q (N + 1) ld qs ws ns QL) (hn : q ≤ 2 * N + 1) : Cn n (q + 1) (N + 1) ld (qs ++ [v]) (ws ++ [v']) ns (QL ++ [M]) := ⟨h.f1, h.f2, by simp [h.f3], by simp [h.f4], by simp [h.f5], h.f6, by omega, h.f8, h.f9⟩
end
theorem neg8 (n : Nat) (h : n ≤ 300) : wrap64 (-((n : Int) + 1)) = -1 - (n : Int) := by rw [IntWalk.wrap64_in _ ⟨by omega, by omega⟩]; omega
theorem slice_some {w : World} {B : Nat} {e : TypeId} {z : Nat} {a : Option Addr} {l c k : Nat} {xs : List Value} (h : w.ownsRow B e z (.slice a l c) k xs) (hk : 0 < k) : ∃ g, a = some ⟨g, 0, none⟩ ∧ l ≤ c := by
  rcases h.2 with ⟨e, h0⟩ | ⟨g, cap, cur, e, _, _, h3, _⟩
  · omega
  · cases e; exact ⟨g, rfl, h3⟩
theorem qs_le {n q N k : Nat} (h : q ≤ 2 * N) (hk : k < 3) (hk0 : ¬ k = 0) : q + (k - 1) ≤ 2 * N + 1 := by omega
theorem one_cat8 (w : World) (v : Value) (t : TypeId) : (w.alloc (.cells #[v] t)).cell? ⟨w.heap.size, 0, none⟩ = some v := (Blk.new w #[v] t).at' 0
theorem pos8 {k : Nat} (h : ¬ k = 0) : (0 : Int) < (k : Int) := by omega
theorem lt3 {k : Nat} (h : k < 3) : (k : Int) < 3 := by omega
theorem lt300 {k : Nat} (h : k < 300) : (k : Int) < 300 := by omega
theorem get_end {α : Type} (A : List α) (x : α) {n : Nat} (h : A.length = n) : (A ++ [x])[n]? = some x := by subst h; simp
theorem TextsIn.at' {W : World} {a : Option Addr} {len N : Nat} (h : TextsIn W a len) (hN : N < len) : ∃ b off, a = some ⟨b, off, none⟩ ∧ ∃ s : ByteArray, s.size ≤ maxLen ∧ ∀ w', Below W.heap.size W w' → w'.cell? ⟨b, off + N, none⟩ = some (.string s) := by
  obtain ⟨b, off, rfl, _, hj⟩ := h.resolve_left (by omega)
  obtain ⟨s, hc, hz⟩ := hj N hN
  exact ⟨b, off, rfl, s, hz, fun w' hb => keep1 hb hc⟩
theorem row_slice1 {w : World} {B e n q : Nat} {v x : Value} {xs ys : List Value} (h : w.ownsRow B e n v (xs ++ [x]).length ys) (hx : xs.length = q) : ∃ a c, v = .slice a (q + 1) c := by
  obtain ⟨a, c, e⟩ := row_slice h
  exact ⟨a, c, by rw [e, List.length_append, hx]; rfl⟩
theorem row_slice2 {w : World} {B e n q k : Nat} {v : Value} {xs : List Nat} {ys : List Value} (h : w.ownsRow B e n v (xs ++ [k]).length ys) (hx : xs.length = q) : ∃ a c, v = .slice a (q + 1) c := by
  obtain ⟨a, c, e⟩ := row_slice h
  exact ⟨a, c, by rw [e, List.length_append, hx]; rfl⟩
theorem nq_step {n n' q q' k : Nat} (hk0 : ¬ k = 0) (h : n' = n + min k 1 ∧ q' = q + (k - 1)) : n' = n + min (k + 1) 1 ∧ q' + 1 = q + (k + 1 - 1) := by omega
theorem nq_le {n n' q q' k N : Nat} (hk : k < 3) (h : n' = n + min k 1 ∧ q' = q + (k - 1)) (h2 : n ≤ N ∧ q ≤ 2 * N) : q' ≤ 2 * N + 1 := by omega
theorem nq_zero {n n' q q' N : Nat} (h : n' = n + min 0 1 ∧ q' = q + (0 - 1)) (h2 : n ≤ N ∧ q ≤ 2 * N) : n' ≤ N ∧ (n' + 1 = n + min 1 1 ∧ q' = q + (1 - 1)) := by omega
theorem nlt3 {k : Nat} (h : ¬ k < 3) : ¬ (k : Int) < 3 := by omega
theorem nlt300 {k : Nat} (h : ¬ k < 300) : ¬ (k : Int) < 300 := by omega
theorem neg1 (i : Nat) (h : i ≤ 300) : wrap64 (-1 - (i : Int)) = -1 - (i : Int) := IntWalk.wrap64_in _ ⟨by omega, by omega⟩
theorem nlec {a b : Nat} (h : a < b) : ¬ (b : Int) ≤ (a : Int) := by omega
theorem lec {a b : Nat} (h : ¬ a < b) : (b : Int) ≤ (a : Int) := by omega
theorem meas_up {r k l : Nat} (h : k < r) (e : l = k + 1) : r - l < r - k := by omega
theorem word_size8 (a b : Int) : (Tryd.prog.info? 32).map (·.size) = some (#[Value.int .i64 a, .string no, .int .i64 b] : Array Value).size := word_size
theorem lt139 {lq rr : Nat} (h : lq < rr) (h2 : rr ≤ 135535) : lq < 139999 := by omega
theorem i300 {i n N : Nat} (h : i < n) (h1 : n ≤ N) (h2 : N ≤ 300) : i ≤ 300 := by omega
theorem ne10 (n : Nat) : 10 + n ≠ 0 ∧ 10 + n ≠ 1 ∧ 10 + n ≠ 2 := by omega
theorem neg8b (n : Nat) (h : n ≤ 300) : wrap64 (-((n + 1 : Nat) : Int)) = -1 - (n : Int) := by rw [show (-((n + 1 : Nat) : Int)) = -((n : Int) + 1) by omega]; exact neg8 n h
theorem le300 {n N : Nat} (h : n ≤ N) (hN : N < 300) : n ≤ 300 := by omega
section
variable {W wr w' : World} {c : Nat → Nat} {b : Nat} {vl vn vq vw : Value} {ld : List Value} {ns : List Nat} {qs ws : List Value} {LQ LW : List (List Wd)}
theorem lx_put {g j : Nat} {k p : Int} (h : LxSt W wr c b vl vn vq vw ld ns qs ws LQ LW) (hg : c g = 10 + b) : LxSt W (putW wr g j k p) c b vl vn vq vw ld ns qs ws LQ LW :=
  h.chg (putW_chg wr g j k p) (fun x hx _ => by subst hx; exact ⟨(h.top x (by rw [hg]; omega)).1, .inr ⟨b, Nat.le_refl _, hg⟩⟩)
theorem want_put {g j : Nat} {k p : Int} {B : Nat} {v : Value} {M : List Wd} (h : RowW wr B v M) (hv : Col c 5 v) (hg : c g = 10 + b) : RowW (putW wr g j k p) B v M :=
  owns_keep h (fun x hx => (putW_chg wr g j k p).block x (owns_lt h x hx).2 (fun e => by have := hv x hx; subst e; omega))
theorem told_row {B : Nat} {v : Value} {M : List Wd} {b' : Nat} (h : wr.ownsRow B 32 3 v M.length (mix8 b' M M.length)) : RowI wr B v (mks b' M.length 0) := by
  rw [mix_all] at h
  unfold RowI
  rw [mks_len]
  exact h
end
set_option maxHeartbeats 16000000 in
set_option maxRecDepth 100000 in
theorem lexFresh_walk {W : World} (hL : Lay8 W) (a : Option Addr) (len cap : Nat) (hT : TextsIn W a len) : Calls Tryd.prog 3 #[.slice a len cap] W fun e w' => e = .returned (.bool true) ∧ Below W.heap.size W w' := by
  have H1 := hide (begun8.out W hL)
  replace hL := hide hL
  replace hT := hide hT
  go_enter Tryd.func3, Tryd.ntmps3
  try simp only [List.append]
  go_wp2_with (first
    | (go_at_call 4; refine H1.out.mono ?_; rintro e w0 ⟨rfl, hb⟩; have b0 := hide hb; clear hb))
  go_loopw [3, 4, 5, 6, 7, 8] (fun sz s4 s5 s6 s7 i wr => ∃ (N n q : Nat) (z : Int) (a4 a5 a6 a7 : Option Addr) (c4 c5 c6 c7 : Nat) (c : Nat → Nat) (ld qs ws : List Value) (ns : List Nat) (QL : List (List Wd)),
    N ≤ len ∧ sz = .int .i64 z ∧ s4 = .slice a4 n c4 ∧ s5 = .slice a5 q c5 ∧ s6 = .slice a6 q c6 ∧ s7 = .slice a7 n c7 ∧ i = .int .i64 N ∧ Hid (Cn n q N ld qs ws ns QL) ∧ Hid (LxSt W wr c n (.slice a4 n c4) (.slice a7 n c7) (.slice a5 q c5) (.slice a6 q c6) ld ns qs ws QL QL)) (fun _ _ _ _ _ i _ => len - (intOf i).toNat)
  case atStart => exact ⟨0, 0, 0, 0, none, none, none, none, 0, 0, 0, 0, fun _ => 0, [], [], [], [], [], Nat.zero_le _, rfl, rfl, rfl, rfl, rfl, rfl, hide ⟨rfl, rfl, rfl, rfl, rfl, Nat.zero_le _, Nat.zero_le _, Nat.zero_le _, fun v hv => by cases hv⟩, hide (LxSt.start b0.out)⟩
  case round =>
    obtain ⟨N, n, q, z, a4, a5, a6, a7, c4, c5, c6, c7, c, ld, qs, ws, ns, QL, hNl, rfl, rfl, rfl, rfl, rfl, rfl, hC, S⟩ := hrel
    by_cases hx : N < len ∧ N < 300
    · obtain ⟨hlt, h300⟩ := hx
      have p1 := ltc hlt
      have p2 := lt300 h300
      have wk := up8 h300 (Nat.le_refl _) (by decide)
      obtain ⟨b, off, rfl, s, hs, HC⟩ := hT.out.at' hlt
      have x0 := HC _ S.out.low
      obtain ⟨y1, hy1⟩ : ∃ y, wrap64 (z + 100) = y := ⟨_, rfl⟩
      obtain ⟨y2, hy2⟩ : ∃ y, wrap64 (60 * (s.size : Int)) = y := ⟨_, rfl⟩
      obtain ⟨z', hz'⟩ : ∃ y, wrap64 (y1 + y2) = y := ⟨_, rfl⟩
      have HRef := hide (fun w => (rcut8 s w hs).mono (fun e w' h => cut_any h))
      have HCut := hide (fun w hl => (cut8 s w hl hs).mono (fun e w' h => cut_any h))
      have hM := hide (wds_len s)
      generalize wds s = M at *
      replace HC := hide HC
      replace hs := hide hs
      replace h300 := hide h300
      have nq : Hid (n ≤ N ∧ q ≤ 2 * N) := hide ⟨hC.out.f6, hC.out.f7⟩
      cases hbd : decide (16777216 < z')
      · go_wp2_with (first
          | (go_at_call 5; refine (HRef.out _).mono ?_; rintro e w1 ⟨av, cv, pv, qv, rfl, hr, hb⟩; obtain ⟨S1, R1, C1, _⟩ := lx_take S.out hb hr 5 (by decide); replace S1 := hide S1; replace R1 := hide R1; replace C1 := hide C1; have x1 := hide (HC.out _ S1.out.low); clear hb hr x0))
        go_loopw [4, 5, 6, 7, 12] (fun s4 s5 s6 s7 kk wr => ∃ (k : Nat) (n' q' : Nat) (a4 a5 a6 a7 : Option Addr) (c4 c5 c6 c7 : Nat) (c : Nat → Nat) (ld qs ws : List Value) (ns : List Nat) (QL : List (List Wd)),
          k ≤ 3 ∧ s4 = .slice a4 n' c4 ∧ s5 = .slice a5 q' c5 ∧ s6 = .slice a6 q' c6 ∧ s7 = .slice a7 n' c7 ∧ kk = .int .i64 k ∧ Hid (n' = n + min k 1 ∧ q' = q + (k - 1)) ∧ Hid (Cn n' q' (N + 1) ld qs ws ns QL) ∧ Hid (LxSt W wr c n' (.slice a4 n' c4) (.slice a7 n' c7) (.slice a5 q' c5) (.slice a6 q' c6) ld ns qs ws QL QL) ∧ Hid (RowW wr W.heap.size (.slice av M.length cv) M ∧ Col c 5 (.slice av M.length cv))) (fun _ _ _ _ kk _ => 3 - (intOf kk).toNat)
        case atStart => exact ⟨0, n, q, a4, a5, a6, a7, c4, c5, c6, c7, _, ld, qs, ws, ns, QL, Nat.zero_le _, rfl, rfl, rfl, rfl, rfl, hide ⟨rfl, rfl⟩, hide (hC.out.up h300.out), S1, hide ⟨R1.out, C1.out⟩⟩
        case round =>
          clear S S1 R1 C1 hC x1
          obtain ⟨k, n', q', a4, a5, a6, a7, c4, c5, c6, c7, c, ld, qs, ws, ns, QL, hk3, rfl, rfl, rfl, rfl, rfl, hnq, hC, S, RC⟩ := hrel
          have x1 := HC.out _ S.out.low
          have HCl := hide (HCut.out wr (lx_lay S.out hL.out))
          by_cases hk : k < 3
          · have q1 := lt3 hk
            have wk2 := up8 hk (Nat.le_refl _) (by decide)
            by_cases hk0 : k = 0
            · subst hk0
              obtain ⟨hnN, hnq1⟩ := nq_zero hnq.out nq.out
              have hneg := neg8 n' (le300 hnN h300.out)
              have hneg2 := neg8b n' (le300 hnN h300.out)
              replace hnN := hide hnN
              replace hnq1 := hide hnq1
              go_wp2_with (first
                | (go_at_call 6; refine HCl.out.mono ?_; rintro e w2 ⟨al, cl, pl, ql, rfl, hr, hb⟩; obtain ⟨S2, R2, C2, hcol⟩ := lx_take S.out hb hr (10 + n') (ne10 n').1; have W2 := hide (row_keep RC.out.1 hb); have WC2 := hide (hcol _ 5 (by decide) RC.out.2); have HE := hide (eq_rows R2 W2.out hM.out); replace S2 := hide S2; replace R2 := hide R2; replace C2 := hide C2; clear hb hr hcol x1 HCl)
                | (go_at_call 7; refine HE.out.mono ?_; rintro e w3 ⟨rfl, hb⟩; have S3 := hide ((S2.out.below hb).below (step (Below.refl w3.heap.size w3) (.cells #[.slice al M.length cl] 26))); have R3 := hide (row_keep (row_keep R2.out hb) (step (Below.refl w3.heap.size w3) (.cells #[.slice al M.length cl] 26))); have W3 := hide (row_keep (row_keep W2.out hb) (step (Below.refl w3.heap.size w3) (.cells #[.slice al M.length cl] 26))); have B3 := hide (one_cat8 w3 (.slice al M.length cl) 26); clear hb HE S2 R2 W2)
                | (at_builtin; refine wpList_appL8 (v := .slice a4 n' c4) (X := w3.heap.size) (sv := .slice al M.length cl) rfl _ _ rfl rfl rfl S3.out.l B3.out rfl hC.out.le.1 S3.out.low.size ?_; intro v4 w4 r4 g4 o4; obtain ⟨S4, P4⟩ := S3.out.pushL (Nat.le_of_eq hC.out.f1.symm) r4 g4 o4; obtain ⟨a4', c4', rfl⟩ := row_slice1 r4 hC.out.f1; have W4 := hide (row_keep (P4.row W3.out WC2.out (by decide) (by decide)) (step (Below.refl w4.heap.size w4) (.cells #[.int .i64 (M.length : Int)] 3))); have WC4 := hide (P4.cols WC2.out (by decide)); have R4 := hide (row_keep (P4.row R3.out C2.out (ne10 n').1 (ne10 n').2.1) (step (Below.refl w4.heap.size w4) (.cells #[.int .i64 (M.length : Int)] 3))); have C4 := hide (P4.cols C2.out (ne10 n').1); have S5 := hide (S4.below (step (Below.refl w4.heap.size w4) (.cells #[.int .i64 (M.length : Int)] 3))); have B4 := hide (one_cat8 w4 (.int .i64 (M.length : Int)) 3); clear r4 g4 o4 S4 P4 S3 R3 W3 WC2 B3 C2)
                | (at_builtin; refine wpList_appN8 (v := .slice a7 n' c7) (X := w4.heap.size) (k := M.length) rfl _ _ rfl rfl rfl S5.out.n B4.out hC.out.le.2.1 S5.out.low.size ?_; intro v7 w5 r7 g7 o7; obtain ⟨S6, P6⟩ := S5.out.pushN (Nat.le_of_eq hC.out.f2.symm) r7 g7 o7; obtain ⟨a7', c7', rfl⟩ := row_slice2 r7 hC.out.f2; have W6 := hide (P6.row W4.out WC4.out (by decide) (by decide)); have WC6 := hide (P6.cols WC4.out (by decide)); have R6 := hide (P6.row R4.out C4.out (ne10 n').1 (ne10 n').2.2); have C6 := hide (P6.cols C4.out (ne10 n').1); replace S6 := hide S6; clear r7 g7 o7 P6 S5 W4 WC4 B4 R4 C4))
              go_loopw [16] (fun jj wr => ∃ j : Nat, j ≤ M.length ∧ jj = .int .i64 j ∧ Hid (LxSt W wr _ n' (.slice a4' (n' + 1) c4') (.slice a7' (n' + 1) c7') (.slice a5 q' c5) (.slice a6 q' c6) (ld ++ [.slice al M.length cl]) (ns ++ [M.length]) qs ws QL QL) ∧ Hid (wr.ownsRow W.heap.size 32 3 (.slice al M.length cl) M.length (mix8 n' M j)) ∧ Hid (RowW wr W.heap.size (.slice av M.length cv) M)) (fun jj _ => M.length - (intOf jj).toNat)
              case atStart => exact ⟨0, Nat.zero_le _, rfl, S6, hide (by rw [mix_zero]; exact R6.out), W6⟩
              case round =>
                clear S6 R6 W6
                obtain ⟨j, hjM, rfl, S6, R6, W6⟩ := hrel
                by_cases hj : j < M.length
                · have t1 := ltc hj
                  have wk3 := up8 hj hM.out (by decide)
                  obtain ⟨g, rfl, hgc⟩ := slice_some R6.out (Nat.lt_of_le_of_lt (Nat.zero_le _) hj)
                  have hcg := C6.out g rfl
                  have hth := hide (own_there R6.out hj)
                  have R7 := hide (own_put (k := -1 - (n' : Int)) (p := 0) R6.out hj)
                  rw [mix_step n' M j hj] at R7
                  have S7 := hide (lx_put (j := j) (k := -1 - (n' : Int)) (p := 0) S6.out hcg)
                  have W7 := hide (want_put (j := j) (k := -1 - (n' : Int)) (p := 0) W6.out WC6.out hcg)
                  clear S6 R6 W6 hcg
                  go_wp2_with (first
                    | (refine wpList_putW (g := g) (j := j) (k := -1 - (n' : Int)) (p := 0) rfl _ _ rfl rfl rfl (by with_reducible exact hth.out) ?_))
                  exact ⟨⟨j + 1, hj, by first | rfl | (rw [wk3]; rfl), S7, R7, W7⟩, by first | exact ms8 hj | (rw [wk3]; exact ms8 hj)⟩
                · have t1 := nltc hj
                  obtain rfl : j = M.length := Nat.le_antisymm hjM (Nat.le_of_not_lt hj)
                  have S7 := hide (S6.out.told (get_end ld _ hC.out.f1) (get_end ns _ hC.out.f2) (told_row R6.out) C6.out hM.out)
                  go_wp2_with fail
                  exact ⟨⟨1, n' + 1, q', a4', a5, a6, a7', c4', c5, c6, c7', _, _, qs, ws, _, QL, by decide, rfl, rfl, rfl, rfl, rfl, hnq1, hide (hC.out.pushL (v := .slice al M.length cl) hnN.out (show lenV (.slice al M.length cl) ≤ 65535 from hM.out)), S7, hide ⟨W6.out, WC6.out⟩⟩, by decide⟩
            · have q2 := pos8 hk0
              have q2n : 0 < k := Nat.pos_of_ne_zero hk0
              go_wp2_with (first
                | (go_at_call 6; refine HCl.out.mono ?_; rintro e w2 ⟨al, cl, pl, ql, rfl, hr, hb⟩; obtain ⟨S2, R2, C2, hcol⟩ := lx_take S.out hb hr 5 (by decide); have W2 := hide (row_keep RC.out.1 hb); have WC2 := hide (hcol _ _ (by decide) RC.out.2); have HE := hide (eq_rows R2 W2.out hM.out); replace S2 := hide S2; replace R2 := hide R2; replace C2 := hide C2; clear hb hr hcol x1 HCl)
                | (go_at_call 7; refine HE.out.mono ?_; rintro e w3 ⟨rfl, hb⟩; have S3 := hide ((S2.out.below hb).below (step (Below.refl w3.heap.size w3) (.cells #[.slice al M.length cl] 26))); have R3 := hide (row_keep (row_keep R2.out hb) (step (Below.refl w3.heap.size w3) (.cells #[.slice al M.length cl] 26))); have W3 := hide (row_keep (row_keep W2.out hb) (step (Below.refl w3.heap.size w3) (.cells #[.slice al M.length cl] 26))); have B3 := hide (one_cat8 w3 (.slice al M.length cl) 26); clear hb HE S2 R2 W2)
                | (at_builtin; refine wpList_appL8 (v := .slice a5 q' c5) (X := w3.heap.size) (sv := .slice al M.length cl) rfl _ _ rfl rfl rfl S3.out.q B3.out rfl hC.out.le.2.2.1 S3.out.low.size ?_; intro v5 w4 r5 g5 o5; obtain ⟨S4, P4⟩ := S3.out.pushQ (hC.out.f3.trans hC.out.f5.symm) r5 g5 o5 R3.out C2.out hM.out; obtain ⟨a5', c5', rfl⟩ := row_slice1 r5 hC.out.f3; have W4 := hide (row_keep (P4.row W3.out WC2.out (by decide) (by decide)) (step (Below.refl w4.heap.size w4) (.cells #[.slice av M.length cv] 26))); have WC4 := hide (P4.cols WC2.out (by decide)); have S5 := hide (S4.below (step (Below.refl w4.heap.size w4) (.cells #[.slice av M.length cv] 26))); have B4 := hide (one_cat8 w4 (.slice av M.length cv) 26); clear r5 g5 o5 S4 P4 S3 R3 W3 WC2 B3 C2)
                | (at_builtin; refine wpList_appL8 (v := .slice a6 q' c6) (X := w4.heap.size) (sv := .slice av M.length cv) rfl _ _ rfl rfl rfl S5.out.w B4.out rfl hC.out.le.2.2.2 S5.out.low.size ?_; intro v6 w5 r6 g6 o6; obtain ⟨S6, P6⟩ := S5.out.pushW (hC.out.f4.trans hC.out.f5.symm) r6 g6 o6 W4.out WC4.out; obtain ⟨a6', c6', rfl⟩ := row_slice1 r6 hC.out.f4; have W6 := hide (P6.row W4.out WC4.out (by decide) (by decide)); have WC6 := hide (P6.cols WC4.out (by decide)); replace S6 := hide S6; clear r6 g6 o6 P6 S5 W4 WC4 B4))
              exact ⟨⟨k + 1, n', q' + 1, a4, a5', a6', a7, c4, c5', c6', c7, _, ld, _, _, ns, _, hk, rfl, rfl, rfl, rfl, by first | rfl | (rw [wk2]; rfl), hide (nq_step hk0 hnq.out), hide (hC.out.pushQ (nq_le hk hnq.out nq.out)), S6, hide ⟨W6.out, WC6.out⟩⟩, by first | exact ms8 hk | (rw [wk2]; exact ms8 hk)⟩
          · have q1 := nlt3 hk
            go_wp2_with fail
            exact ⟨⟨N + 1, n', q', _, a4, a5, a6, a7, c4, c5, c6, c7, c, ld, qs, ws, ns, QL, hlt, rfl, rfl, rfl, rfl, rfl, by first | rfl | (rw [wk]; rfl), hC, S⟩, by first | exact ms8 hlt | (rw [wk]; exact ms8 hlt)⟩
      · go_wp2_with fail
        exact ⟨⟨N + 1, n, q, _, a4, a5, a6, a7, c4, c5, c6, c7, c, ld, qs, ws, ns, QL, hlt, rfl, rfl, rfl, rfl, rfl, rfl, hide (hC.out.up h300.out), S⟩, ms8 hlt⟩
    · have hn3 : Hid (n ≤ 300) := hide (Nat.le_trans hC.out.f6 hC.out.f8)
      have hq6 : Hid (q ≤ 600) := hide (Nat.le_trans hC.out.f7 (Nat.mul_le_mul_left 2 hC.out.f8))
      by_cases hlt : N < len
      · have p1 := ltc hlt
        have p2 := nlt300 (fun h => hx ⟨hlt, h⟩)
        clear hx
        go_wp2_with fail
        go_loopw [17] (fun ii wr => ∃ (i : Nat) (ld : List Value), i ≤ n ∧ ii = .int .i64 i ∧ Hid (ld.length = n ∧ ∀ (j : Nat) (v : Value), i ≤ j → ld[j]? = some v → lenV v ≤ 65535) ∧ Hid (LxSt W wr c n (.slice a4 n c4) (.slice a7 n c7) (.slice a5 q c5) (.slice a6 q c6) ld ns qs ws QL QL)) (fun ii _ => n - (intOf ii).toNat)
        case atStart => exact ⟨0, ld, Nat.zero_le _, rfl, hide ⟨hC.out.f1, fun j v _ h => hC.out.f9 v (List.mem_of_getElem? h)⟩, S⟩
        case round =>
          clear S
          obtain ⟨i, ld, hin, rfl, hld, S⟩ := hrel
          by_cases hi : i < n
          · have t1 := ltc hi
            have wi := up8 hi hn3.out (by decide)
            have hneg := neg1 i (i300 hi hC.out.f6 hC.out.f8)
            obtain ⟨gl, g7, m, r, lq, ag, cg, hlq, rfl, rfl, hv, hm, x1, x7, hn4, hn7, hr, hcol, hm5, hr5, hle⟩ := loud_at' S.out hld.out.1 hC.out.f2 hi
            obtain ⟨rr, HRm, hr1, hr2, hr3⟩ := room_any lq cg (hld.out.2 i _ (Nat.le_refl _) hv) hle
            have hE := hide (fun d' os => Calls.regrown_of (HRm.out (grow (redrawn wr d') os)))
            have u1 := cell_regrown x1
            replace hlq := hide hlq
            replace hv := hide hv
            replace hm := hide hm
            replace hr1 := hide hr1
            replace hr2 := hide hr2
            replace hr3 := hide hr3
            replace hn4 := hide hn4
            clear x1 x7 hr hcol hm5 hr5 hle HRm hn7
            go_wp2_with fail
            refine wp_region_quiet_below (by kernel_rfl) (by kernel_rfl) ?_
            repeat (go_big_quiet_step (with_reducible exact hE.out _ _))
            refine wpQuiet_nil ?_
            intro w7 hw'
            have hbz : Below wr.heap.size wr w7 := by obtain ⟨⟨dq, osq⟩, hq⟩ := hw'; rw [hq]; exact below_regrown wr dq osq
            clear hw'
            have S7 := hide (S.out.below hbz)
            clear hE u1 hbz S
            go_wp2_with fail
            go_loopw [] (fun wr => ∃ (lq r : Nat) (ld : List Value), Hid (lq = m + r ∧ lq ≤ rr ∧ ld.length = n ∧ ld[i]? = some (.slice ag lq cg) ∧ ∀ (j : Nat) (v : Value), i < j → ld[j]? = some v → lenV v ≤ 65535) ∧ Hid (LxSt W wr c n (.slice (some ⟨gl, 0, none⟩) n c4) (.slice (some ⟨g7, 0, none⟩) n c7) (.slice a5 q c5) (.slice a6 q c6) ld ns qs ws QL QL)) (fun wr => rr - lenAt wr gl i)
            case atStart => exact ⟨lq, r, ld, hide ⟨hlq.out, hr1.out, hld.out.1, hv.out, fun j v hj => hld.out.2 j v (Nat.le_of_lt hj)⟩, S7⟩
            case round =>
              clear S7 hlq hv hld hr1
              obtain ⟨lq, r, ld, hh, S⟩ := hrel
              have x1 := loud_cell S.out hh.out.2.2.2.1
              have hlA := hide (lenAt_of x1)
              by_cases hlt2 : lq < rr
              · have t2 := ltc hlt2
                obtain ⟨g, rfl, hrow, hcg, hm5⟩ := grow_at S.out hi hm.out hh.out.2.2.2.1 hh.out.1 hlt2 hr2.out
                have RO := hide (World.ownsRow.alloc hrow (.cells #[.int .i64 (-1 - (i : Int)), .string no, .int .i64 1] 32))
                have BL := hide (Blk.new wr #[.int .i64 (-1 - (i : Int)), .string no, .int .i64 1] 32)
                have x1a := keep1 (step (Below.refl wr.heap.size wr) (.cells #[.int .i64 (-1 - (i : Int)), .string no, .int .i64 1] 32)) x1
                replace hcg := hide hcg
                replace hm5 := hide hm5
                clear hrow
                go_wp2_with (first
                  | (at_builtin; refine wpList_fitW (g := g) (k := lq) (cap := cg) (X := wr.heap.size) (p := -1 - (i : Int)) (q := 1) rfl _ _ rfl rfl rfl RO.out BL.out (Nat.lt_of_lt_of_le hlt2 hr2.out) ?_; intro w1 r1 g1; obtain ⟨SG, y1, y2, y3⟩ := lx_grow S.out hh.out.2.2.1 hi hm.out hcg.out hm5.out hh.out.1 (lt139 hlt2 hr3.out) g1 r1; have y1 := y1 _ x1; replace SG := hide SG; replace y3 := hide y3; clear r1 g1))
                exact ⟨⟨lq + 1, r + 1, _, hide ⟨by rw [hh.out.1]; rfl, hlt2, by rw [List.length_set]; exact hh.out.2.2.1, List.getElem?_set_self (by rw [hh.out.2.2.1]; exact hi), set_len hh.out.2.2.2.2⟩, SG⟩, by rw [hlA.out]; exact meas_up hlt2 y3.out⟩
              · have t2 := nltc hlt2
                go_wp2_with fail
                exact ⟨⟨i + 1, ld, hi, by first | rfl | (rw [wi]; rfl), hide ⟨hh.out.2.2.1, fun j v hj => hh.out.2.2.2.2 j v hj⟩, S⟩, by first | exact ms8 hi | (rw [wi]; exact ms8 hi)⟩
          · have t1 := nltc hi
            replace hld := hide hld.out.1
            go_wp2_with fail
            go_loopw [19] (fun ii wr => ∃ (i : Nat), i ≤ q ∧ ii = .int .i64 i ∧ Hid (LxSt W wr c n (.slice a4 n c4) (.slice a7 n c7) (.slice a5 q c5) (.slice a6 q c6) ld ns qs ws QL QL)) (fun ii _ => q - (intOf ii).toNat)
            case atStart => exact ⟨0, Nat.zero_le _, rfl, S⟩
            case round =>
              clear S
              obtain ⟨j, hjq, rfl, S⟩ := hrel
              by_cases hj : j < q
              · have t2 := ltc hj
                have wj := up8 hj hq6.out (by decide)
                obtain ⟨g5, g6, M, a1, c1, a2, c2, rfl, rfl, x5, x6, hq5, hq6', r1, r2, l1⟩ := quiet_at S.out hC.out.f3 hC.out.f4 hC.out.f5 hj
                have hE := hide (fun d' os => Calls.regrown_of (eq_rows (row_keep r1 (below_regrown wr d' os)) (row_keep r2 (below_regrown wr d' os)) l1))
                have u5 := cell_regrown x5
                have u6 := cell_regrown x6
                clear x5 x6 r1 r2 l1 hq5 hq6'
                go_wp2_with fail
                refine wp_region_quiet_below (by kernel_rfl) (by kernel_rfl) ?_
                repeat (go_big_quiet_step (with_reducible exact hE.out _ _))
                refine wpQuiet_nil ?_
                intro w7 hw'
                have hbz : Below wr.heap.size wr w7 := by obtain ⟨⟨dq, osq⟩, hq⟩ := hw'; rw [hq]; exact below_regrown wr dq osq
                clear hw'
                have S7 := hide (S.out.below hbz)
                clear hE u5 u6 hbz S
                go_wp2_with fail
                exact ⟨⟨j + 1, hj, by first | rfl | (rw [wj]; rfl), S7⟩, by first | exact ms8 hj | (rw [wj]; exact ms8 hj)⟩
              · have t2 := nltc hj
                go_wp2_with fail
                go_loopw [20] (fun ii wr => ∃ (i : Nat), i ≤ n ∧ ii = .int .i64 i ∧ Hid (LxSt W wr c n (.slice a4 n c4) (.slice a7 n c7) (.slice a5 q c5) (.slice a6 q c6) ld ns qs ws QL QL)) (fun ii _ => n - (intOf ii).toNat)
                case atStart => exact ⟨0, Nat.zero_le _, rfl, S⟩
                case round =>
                  clear S
                  obtain ⟨i2, hin2, rfl, S⟩ := hrel
                  by_cases hi2 : i2 < n
                  · have t3 := ltc hi2
                    have wi := up8 hi2 hn3.out (by decide)
                    have hneg := neg1 i2 (i300 hi2 hC.out.f6 hC.out.f8)
                    obtain ⟨gl, g7, m, r, lq, ag, cg, hlq, rfl, rfl, hv, hm, x1, x7, hn4, hn7, hr, hcol, hm5, hr5, hle⟩ := loud_at' S.out hld.out hC.out.f2 hi2
                    have hlq4 := hide hr5
                    replace hlq := hide hlq
                    replace hr := hide hr
                    replace x1 := hide x1
                    replace x7 := hide x7
                    replace hle := hide hle
                    clear hv hm hcol hm5 hr5 hn4 hn7
                    obtain ⟨wa, rfl⟩ : ∃ wa, wa = wr := ⟨wr, rfl⟩
                    go_wp2_with fail
                    go_loopw [21] (fun kk wr => ∃ (k : Nat), k ≤ lq ∧ kk = .int .i64 k ∧ Hid (Below wa.heap.size wa wr)) (fun kk _ => lq - (intOf kk).toNat)
                    case atStart => exact ⟨0, Nat.zero_le _, rfl, hide (Below.refl _ _)⟩
                    case round =>
                      obtain ⟨k, hkl, rfl, BB⟩ := hrel
                      have z1 := keep1 BB.out x1.out
                      by_cases hk : k < lq
                      · have t4 := ltc hk
                        have wk4 := up8 hk (Nat.le_trans hlq4.out (by decide)) (Nat.le_refl _)
                        obtain ⟨g, rfl, d0, d1, d2⟩ := mark_at hr.out (show k < m + r by rw [← hlq.out]; exact hk)
                        by_cases hkm : k < m
                        · have s1 := nlec hkm
                          rw [if_pos hkm] at d2
                          have BN := hide (next BB.out (step (Below.refl wr.heap.size wr) (.cells #[.int .i64 (-1 - (i2 : Int)), .string no, .int .i64 0] 32)))
                          have ZB := Blk.new wr #[.int .i64 (-1 - (i2 : Int)), .string no, .int .i64 0] 32
                          have v1 := keep1 BN.out x1.out
                          have v7 := keep1 BN.out x7.out
                          have e1 := cell_regrown v1
                          have e2 := cell_regrown (keep1 BN.out d0)
                          have e3 := cell_regrown (keep1 BN.out d1)
                          have e4 := cell_regrown (keep1 BN.out d2)
                          have f0 := cell_regrown (ZB.at' 0)
                          have f1 := cell_regrown (ZB.at' 1)
                          have f2 := cell_regrown (ZB.at' 2)
                          clear ZB d0 d1 d2
                          go_wp2_with (first
                            | (refine wpList_store_new8 rfl 32 _ _ rfl _ #[.int .i64 (-1 - (i2 : Int)), .string no, .int .i64 0] _ rfl rfl rfl (word_size8 _ _) rfl (by rfl) ?_))
                          refine wp_region_quiet_below (by kernel_rfl) (by kernel_rfl) ?_
                          repeat (go_big_quiet_step (fail))
                          refine wpQuiet_nil ?_
                          intro w7 hw'
                          have hbz : Below (wr.alloc (.cells #[.int .i64 (-1 - (i2 : Int)), .string no, .int .i64 0] 32)).heap.size (wr.alloc (.cells #[.int .i64 (-1 - (i2 : Int)), .string no, .int .i64 0] 32)) w7 := by obtain ⟨⟨dq, osq⟩, hq⟩ := hw'; rw [hq]; exact below_regrown (wr.alloc (.cells #[.int .i64 (-1 - (i2 : Int)), .string no, .int .i64 0] 32)) dq osq
                          clear hw'
                          have B8 := hide (next BN.out hbz)
                          clear e1 e2 e3 e4 f0 f1 f2 hbz BN v1 v7
                          go_wp2_with fail
                          exact ⟨⟨k + 1, hk, by first | rfl | (rw [wk4]; rfl), B8⟩, by first | exact ms8 hk | (rw [wk4]; exact ms8 hk)⟩
                        · have s1 := lec hkm
                          rw [if_neg hkm] at d2
                          have BM := hide (next BB.out (step (Below.refl wr.heap.size wr) (.cells #[.int .i64 (-1 - (i2 : Int)), .string no, .int .i64 0] 32)))
                          have v7 := keep1 BM.out x7.out
                          have BN := hide (next BB.out (step (Below.refl wr.heap.size wr) (.cells #[.int .i64 (-1 - (i2 : Int)), .string no, .int .i64 1] 32)))
                          have ZC := Blk.new wr #[.int .i64 (-1 - (i2 : Int)), .string no, .int .i64 1] 32
                          have e1 := cell_regrown (keep1 BN.out x1.out)
                          have e2 := cell_regrown (keep1 BN.out d0)
                          have e3 := cell_regrown (keep1 BN.out d1)
                          have e4 := cell_regrown (keep1 BN.out d2)
                          have f0 := cell_regrown (ZC.at' 0)
                          have f1 := cell_regrown (ZC.at' 1)
                          have f2 := cell_regrown (ZC.at' 2)
                          clear ZC d0 d1 d2 BM
                          go_wp2_with (first
                            | (refine wpList_store_new8 rfl 32 _ _ rfl _ #[.int .i64 (-1 - (i2 : Int)), .string no, .int .i64 0] _ rfl rfl rfl (word_size8 _ _) rfl (by rfl) ?_))
                          refine wp_region_quiet_below (by kernel_rfl) (by kernel_rfl) ?_
                          repeat (go_big_quiet_step (fail))
                          refine wpQuiet_nil ?_
                          intro w7 hw'
                          have hbz : Below (wr.alloc (.cells #[.int .i64 (-1 - (i2 : Int)), .string no, .int .i64 1] 32)).heap.size (wr.alloc (.cells #[.int .i64 (-1 - (i2 : Int)), .string no, .int .i64 1] 32)) w7 := by obtain ⟨⟨dq, osq⟩, hq⟩ := hw'; rw [hq]; exact below_regrown (wr.alloc (.cells #[.int .i64 (-1 - (i2 : Int)), .string no, .int .i64 1] 32)) dq osq
                          clear hw'
                          have B8 := hide (next BN.out hbz)
                          clear e1 e2 e3 e4 f0 f1 f2 hbz BN v7
                          go_wp2_with fail
                          exact ⟨⟨k + 1, hk, by first | rfl | (rw [wk4]; rfl), B8⟩, by first | exact ms8 hk | (rw [wk4]; exact ms8 hk)⟩
                      · have t4 := nltc hk
                        have S8 := hide (S.out.below BB.out)
                        go_wp2_with fail
                        exact ⟨⟨i2 + 1, hi2, by first | rfl | (rw [wi]; rfl), S8⟩, by first | exact ms8 hi2 | (rw [wi]; exact ms8 hi2)⟩
                  · have t3 := nltc hi2
                    go_wp2_with fail
                    go_ret
                    exact ⟨rfl, S.out.low⟩
      · have p1 := nltc hlt
        clear hx
        go_wp2_with fail
        go_loopw [17] (fun ii wr => ∃ (i : Nat) (ld : List Value), i ≤ n ∧ ii = .int .i64 i ∧ Hid (ld.length = n ∧ ∀ (j : Nat) (v : Value), i ≤ j → ld[j]? = some v → lenV v ≤ 65535) ∧ Hid (LxSt W wr c n (.slice a4 n c4) (.slice a7 n c7) (.slice a5 q c5) (.slice a6 q c6) ld ns qs ws QL QL)) (fun ii _ => n - (intOf ii).toNat)
        case atStart => exact ⟨0, ld, Nat.zero_le _, rfl, hide ⟨hC.out.f1, fun j v _ h => hC.out.f9 v (List.mem_of_getElem? h)⟩, S⟩
        case round =>
          clear S
          obtain ⟨i, ld, hin, rfl, hld, S⟩ := hrel
          by_cases hi : i < n
          · have t1 := ltc hi
            have wi := up8 hi hn3.out (by decide)
            have hneg := neg1 i (i300 hi hC.out.f6 hC.out.f8)
            obtain ⟨gl, g7, m, r, lq, ag, cg, hlq, rfl, rfl, hv, hm, x1, x7, hn4, hn7, hr, hcol, hm5, hr5, hle⟩ := loud_at' S.out hld.out.1 hC.out.f2 hi
            obtain ⟨rr, HRm, hr1, hr2, hr3⟩ := room_any lq cg (hld.out.2 i _ (Nat.le_refl _) hv) hle
            have hE := hide (fun d' os => Calls.regrown_of (HRm.out (grow (redrawn wr d') os)))
            have u1 := cell_regrown x1
            replace hlq := hide hlq
            replace hv := hide hv
            replace hm := hide hm
            replace hr1 := hide hr1
            replace hr2 := hide hr2
            replace hr3 := hide hr3
            replace hn4 := hide hn4
            clear x1 x7 hr hcol hm5 hr5 hle HRm hn7
            go_wp2_with fail
            refine wp_region_quiet_below (by kernel_rfl) (by kernel_rfl) ?_
            repeat (go_big_quiet_step (with_reducible exact hE.out _ _))
            refine wpQuiet_nil ?_
            intro w7 hw'
            have hbz : Below wr.heap.size wr w7 := by obtain ⟨⟨dq, osq⟩, hq⟩ := hw'; rw [hq]; exact below_regrown wr dq osq
            clear hw'
            have S7 := hide (S.out.below hbz)
            clear hE u1 hbz S
            go_wp2_with fail
            go_loopw [] (fun wr => ∃ (lq r : Nat) (ld : List Value), Hid (lq = m + r ∧ lq ≤ rr ∧ ld.length = n ∧ ld[i]? = some (.slice ag lq cg) ∧ ∀ (j : Nat) (v : Value), i < j → ld[j]? = some v → lenV v ≤ 65535) ∧ Hid (LxSt W wr c n (.slice (some ⟨gl, 0, none⟩) n c4) (.slice (some ⟨g7, 0, none⟩) n c7) (.slice a5 q c5) (.slice a6 q c6) ld ns qs ws QL QL)) (fun wr => rr - lenAt wr gl i)
            case atStart => exact ⟨lq, r, ld, hide ⟨hlq.out, hr1.out, hld.out.1, hv.out, fun j v hj => hld.out.2 j v (Nat.le_of_lt hj)⟩, S7⟩
            case round =>
              clear S7 hlq hv hld hr1
              obtain ⟨lq, r, ld, hh, S⟩ := hrel
              have x1 := loud_cell S.out hh.out.2.2.2.1
              have hlA := hide (lenAt_of x1)
              by_cases hlt2 : lq < rr
              · have t2 := ltc hlt2
                obtain ⟨g, rfl, hrow, hcg, hm5⟩ := grow_at S.out hi hm.out hh.out.2.2.2.1 hh.out.1 hlt2 hr2.out
                have RO := hide (World.ownsRow.alloc hrow (.cells #[.int .i64 (-1 - (i : Int)), .string no, .int .i64 1] 32))
                have BL := hide (Blk.new wr #[.int .i64 (-1 - (i : Int)), .string no, .int .i64 1] 32)
                have x1a := keep1 (step (Below.refl wr.heap.size wr) (.cells #[.int .i64 (-1 - (i : Int)), .string no, .int .i64 1] 32)) x1
                replace hcg := hide hcg
                replace hm5 := hide hm5
                clear hrow
                go_wp2_with (first
                  | (at_builtin; refine wpList_fitW (g := g) (k := lq) (cap := cg) (X := wr.heap.size) (p := -1 - (i : Int)) (q := 1) rfl _ _ rfl rfl rfl RO.out BL.out (Nat.lt_of_lt_of_le hlt2 hr2.out) ?_; intro w1 r1 g1; obtain ⟨SG, y1, y2, y3⟩ := lx_grow S.out hh.out.2.2.1 hi hm.out hcg.out hm5.out hh.out.1 (lt139 hlt2 hr3.out) g1 r1; have y1 := y1 _ x1; replace SG := hide SG; replace y3 := hide y3; clear r1 g1))
                exact ⟨⟨lq + 1, r + 1, _, hide ⟨by rw [hh.out.1]; rfl, hlt2, by rw [List.length_set]; exact hh.out.2.2.1, List.getElem?_set_self (by rw [hh.out.2.2.1]; exact hi), set_len hh.out.2.2.2.2⟩, SG⟩, by rw [hlA.out]; exact meas_up hlt2 y3.out⟩
              · have t2 := nltc hlt2
                go_wp2_with fail
                exact ⟨⟨i + 1, ld, hi, by first | rfl | (rw [wi]; rfl), hide ⟨hh.out.2.2.1, fun j v hj => hh.out.2.2.2.2 j v hj⟩, S⟩, by first | exact ms8 hi | (rw [wi]; exact ms8 hi)⟩
          · have t1 := nltc hi
            replace hld := hide hld.out.1
            go_wp2_with fail
            go_loopw [19] (fun ii wr => ∃ (i : Nat), i ≤ q ∧ ii = .int .i64 i ∧ Hid (LxSt W wr c n (.slice a4 n c4) (.slice a7 n c7) (.slice a5 q c5) (.slice a6 q c6) ld ns qs ws QL QL)) (fun ii _ => q - (intOf ii).toNat)
            case atStart => exact ⟨0, Nat.zero_le _, rfl, S⟩
            case round =>
              clear S
              obtain ⟨j, hjq, rfl, S⟩ := hrel
              by_cases hj : j < q
              · have t2 := ltc hj
                have wj := up8 hj hq6.out (by decide)
                obtain ⟨g5, g6, M, a1, c1, a2, c2, rfl, rfl, x5, x6, hq5, hq6', r1, r2, l1⟩ := quiet_at S.out hC.out.f3 hC.out.f4 hC.out.f5 hj
                have hE := hide (fun d' os => Calls.regrown_of (eq_rows (row_keep r1 (below_regrown wr d' os)) (row_keep r2 (below_regrown wr d' os)) l1))
                have u5 := cell_regrown x5
                have u6 := cell_regrown x6
                clear x5 x6 r1 r2 l1 hq5 hq6'
                go_wp2_with fail
                refine wp_region_quiet_below (by kernel_rfl) (by kernel_rfl) ?_
                repeat (go_big_quiet_step (with_reducible exact hE.out _ _))
                refine wpQuiet_nil ?_
                intro w7 hw'
                have hbz : Below wr.heap.size wr w7 := by obtain ⟨⟨dq, osq⟩, hq⟩ := hw'; rw [hq]; exact below_regrown wr dq osq
                clear hw'
                have S7 := hide (S.out.below hbz)
                clear hE u5 u6 hbz S
                go_wp2_with fail
                exact ⟨⟨j + 1, hj, by first | rfl | (rw [wj]; rfl), S7⟩, by first | exact ms8 hj | (rw [wj]; exact ms8 hj)⟩
              · have t2 := nltc hj
                go_wp2_with fail
                go_loopw [20] (fun ii wr => ∃ (i : Nat), i ≤ n ∧ ii = .int .i64 i ∧ Hid (LxSt W wr c n (.slice a4 n c4) (.slice a7 n c7) (.slice a5 q c5) (.slice a6 q c6) ld ns qs ws QL QL)) (fun ii _ => n - (intOf ii).toNat)
                case atStart => exact ⟨0, Nat.zero_le _, rfl, S⟩
                case round =>
                  clear S
                  obtain ⟨i2, hin2, rfl, S⟩ := hrel
                  by_cases hi2 : i2 < n
                  · have t3 := ltc hi2
                    have wi := up8 hi2 hn3.out (by decide)
                    have hneg := neg1 i2 (i300 hi2 hC.out.f6 hC.out.f8)
                    obtain ⟨gl, g7, m, r, lq, ag, cg, hlq, rfl, rfl, hv, hm, x1, x7, hn4, hn7, hr, hcol, hm5, hr5, hle⟩ := loud_at' S.out hld.out hC.out.f2 hi2
                    have hlq4 := hide hr5
                    replace hlq := hide hlq
                    replace hr := hide hr
                    replace x1 := hide x1
                    replace x7 := hide x7
                    replace hle := hide hle
                    clear hv hm hcol hm5 hr5 hn4 hn7
                    obtain ⟨wa, rfl⟩ : ∃ wa, wa = wr := ⟨wr, rfl⟩
                    go_wp2_with fail
                    go_loopw [21] (fun kk wr => ∃ (k : Nat), k ≤ lq ∧ kk = .int .i64 k ∧ Hid (Below wa.heap.size wa wr)) (fun kk _ => lq - (intOf kk).toNat)
                    case atStart => exact ⟨0, Nat.zero_le _, rfl, hide (Below.refl _ _)⟩
                    case round =>
                      obtain ⟨k, hkl, rfl, BB⟩ := hrel
                      have z1 := keep1 BB.out x1.out
                      by_cases hk : k < lq
                      · have t4 := ltc hk
                        have wk4 := up8 hk (Nat.le_trans hlq4.out (by decide)) (Nat.le_refl _)
                        obtain ⟨g, rfl, d0, d1, d2⟩ := mark_at hr.out (show k < m + r by rw [← hlq.out]; exact hk)
                        by_cases hkm : k < m
                        · have s1 := nlec hkm
                          rw [if_pos hkm] at d2
                          have BN := hide (next BB.out (step (Below.refl wr.heap.size wr) (.cells #[.int .i64 (-1 - (i2 : Int)), .string no, .int .i64 0] 32)))
                          have ZB := Blk.new wr #[.int .i64 (-1 - (i2 : Int)), .string no, .int .i64 0] 32
                          have v1 := keep1 BN.out x1.out
                          have v7 := keep1 BN.out x7.out
                          have e1 := cell_regrown v1
                          have e2 := cell_regrown (keep1 BN.out d0)
                          have e3 := cell_regrown (keep1 BN.out d1)
                          have e4 := cell_regrown (keep1 BN.out d2)
                          have f0 := cell_regrown (ZB.at' 0)
                          have f1 := cell_regrown (ZB.at' 1)
                          have f2 := cell_regrown (ZB.at' 2)
                          clear ZB d0 d1 d2
                          go_wp2_with (first
                            | (refine wpList_store_new8 rfl 32 _ _ rfl _ #[.int .i64 (-1 - (i2 : Int)), .string no, .int .i64 0] _ rfl rfl rfl (word_size8 _ _) rfl (by rfl) ?_))
                          refine wp_region_quiet_below (by kernel_rfl) (by kernel_rfl) ?_
                          repeat (go_big_quiet_step (fail))
                          refine wpQuiet_nil ?_
                          intro w7 hw'
                          have hbz : Below (wr.alloc (.cells #[.int .i64 (-1 - (i2 : Int)), .string no, .int .i64 0] 32)).heap.size (wr.alloc (.cells #[.int .i64 (-1 - (i2 : Int)), .string no, .int .i64 0] 32)) w7 := by obtain ⟨⟨dq, osq⟩, hq⟩ := hw'; rw [hq]; exact below_regrown (wr.alloc (.cells #[.int .i64 (-1 - (i2 : Int)), .string no, .int .i64 0] 32)) dq osq
                          clear hw'
                          have B8 := hide (next BN.out hbz)
                          clear e1 e2 e3 e4 f0 f1 f2 hbz BN v1 v7
                          go_wp2_with fail
                          exact ⟨⟨k + 1, hk, by first | rfl | (rw [wk4]; rfl), B8⟩, by first | exact ms8 hk | (rw [wk4]; exact ms8 hk)⟩
                        · have s1 := lec hkm
                          rw [if_neg hkm] at d2
                          have BM := hide (next BB.out (step (Below.refl wr.heap.size wr) (.cells #[.int .i64 (-1 - (i2 : Int)), .string no, .int .i64 0] 32)))
                          have v7 := keep1 BM.out x7.out
                          have BN := hide (next BB.out (step (Below.refl wr.heap.size wr) (.cells #[.int .i64 (-1 - (i2 : Int)), .string no, .int .i64 1] 32)))
                          have ZC := Blk.new wr #[.int .i64 (-1 - (i2 : Int)), .string no, .int .i64 1] 32
                          have e1 := cell_regrown (keep1 BN.out x1.out)
                          have e2 := cell_regrown (keep1 BN.out d0)
                          have e3 := cell_regrown (keep1 BN.out d1)
                          have e4 := cell_regrown (keep1 BN.out d2)
                          have f0 := cell_regrown (ZC.at' 0)
                          have f1 := cell_regrown (ZC.at' 1)
                          have f2 := cell_regrown (ZC.at' 2)
                          clear ZC d0 d1 d2 BM
                          go_wp2_with (first
                            | (refine wpList_store_new8 rfl 32 _ _ rfl _ #[.int .i64 (-1 - (i2 : Int)), .string no, .int .i64 0] _ rfl rfl rfl (word_size8 _ _) rfl (by rfl) ?_))
                          refine wp_region_quiet_below (by kernel_rfl) (by kernel_rfl) ?_
                          repeat (go_big_quiet_step (fail))
                          refine wpQuiet_nil ?_
                          intro w7 hw'
                          have hbz : Below (wr.alloc (.cells #[.int .i64 (-1 - (i2 : Int)), .string no, .int .i64 1] 32)).heap.size (wr.alloc (.cells #[.int .i64 (-1 - (i2 : Int)), .string no, .int .i64 1] 32)) w7 := by obtain ⟨⟨dq, osq⟩, hq⟩ := hw'; rw [hq]; exact below_regrown (wr.alloc (.cells #[.int .i64 (-1 - (i2 : Int)), .string no, .int .i64 1] 32)) dq osq
                          clear hw'
                          have B8 := hide (next BN.out hbz)
                          clear e1 e2 e3 e4 f0 f1 f2 hbz BN v7
                          go_wp2_with fail
                          exact ⟨⟨k + 1, hk, by first | rfl | (rw [wk4]; rfl), B8⟩, by first | exact ms8 hk | (rw [wk4]; exact ms8 hk)⟩
                      · have t4 := nltc hk
                        have S8 := hide (S.out.below BB.out)
                        go_wp2_with fail
                        exact ⟨⟨i2 + 1, hi2, by first | rfl | (rw [wi]; rfl), S8⟩, by first | exact ms8 hi2 | (rw [wi]; exact ms8 hi2)⟩
                  · have t3 := nltc hi2
                    go_wp2_with fail
                    go_ret
                    exact ⟨rfl, S.out.low⟩
end Go.Proofs.YtcabgnikbgoikaaDoor
