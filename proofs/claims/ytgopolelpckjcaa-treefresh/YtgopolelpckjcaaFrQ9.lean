/- TreeFresh's mathematics: what is kept to the end, told apart by colours of blocks; what one round adds; what a round has made. -/
import Derived.Test.YtgopolelpckjcaaKept9
import Derived.Test.YtgopolelpckjcaaRSm9
import Derived.Test.YtgopolelpckjcaaRRd9
import Derived.Test.YtgopolelpckjcaaAreas9
namespace Go.Proofs.Ytgopolelpckjcaa
open Go.RowKit Go.Sort
set_option linter.unusedVariables false

section
/-- The row's own block has the colour. -/
def Col (c : Nat → Nat) (q : Nat) (v : Value) : Prop := ∀ x, v.ownBlock = some x → c x = q
/-- What is kept to the end: copies, the trees that they were made of, lists, and what they should say. -/
structure FrSt (W wr : World) (c : Nat → Nat) (v3 v4 v5 v6 : Value) (kc wc : List (Array Value)) (ls sd : List Value) (T : List Ex) (L : List (List Ar)) : Prop where
  low : Below W.heap.size W wr
  top : ∀ x, c x ≠ 0 → W.heap.size ≤ x ∧ x < wr.heap.size
  k : RowX wr W.heap.size v3 kc
  kq : Col c 1 v3
  w : RowX wr W.heap.size v4 wc
  wq : Col c 2 v4
  l : wr.ownsRow W.heap.size 41 1 v5 ls.length ls
  lq : Col c 3 v5
  s : wr.ownsRow W.heap.size 41 1 v6 sd.length sd
  sq : Col c 4 v6
  kl : kc.length = T.length
  wl : wc.length = T.length
  ll : ls.length = L.length
  sl : sd.length = L.length
  tr : ∀ (j : Nat) (t : Ex) (cs : Array Value), T[j]? = some t → kc[j]? = some cs → ∃ bs, Ow wr (.agg cs) t bs ∧ bs.Nodup ∧ (∀ x ∈ bs, c x = 10 + j * 2) ∧ nodesE t ≤ 512 ∧ SmE t
  we : ∀ (j : Nat) (t : Ex) (cs : Array Value), T[j]? = some t → wc[j]? = some cs → Tree W (.agg cs) t
  li : ∀ (j : Nat) (M : List Ar) (v : Value), L[j]? = some M → ls[j]? = some v → RowA wr W.heap.size v M ∧ Col c (11 + j * 2) v ∧ M.length ≤ 512
  sa : ∀ (j : Nat) (M : List Ar) (v : Value), L[j]? = some M → sd[j]? = some v → RowA wr W.heap.size v M ∧ Col c 5 v
variable {W wr w' : World} {c : Nat → Nat} {v3 v4 v5 v6 : Value} {kc wc : List (Array Value)} {ls sd : List Value} {T : List Ex} {L : List (List Ar)}
theorem FrSt.start (h : Below W.heap.size W wr) : FrSt W wr (fun _ => 0) (.slice none 0 0) (.slice none 0 0) (.slice none 0 0) (.slice none 0 0) [] [] [] [] [] [] where
  low := h
  top := fun x hx => absurd rfl hx
  k := ⟨rfl, .inl ⟨rfl, rfl⟩⟩
  kq := fun x hx => by cases hx
  w := ⟨rfl, .inl ⟨rfl, rfl⟩⟩
  wq := fun x hx => by cases hx
  l := ⟨rfl, .inl ⟨rfl, rfl⟩⟩
  lq := fun x hx => by cases hx
  s := ⟨rfl, .inl ⟨rfl, rfl⟩⟩
  sq := fun x hx => by cases hx
  kl := rfl
  wl := rfl
  ll := rfl
  sl := rfl
  tr := fun j t cs h => by simp at h
  we := fun j t cs h => by simp at h
  li := fun j M v h => by simp at h
  sa := fun j M v h => by simp at h
/-- What is written has no colour: all that is kept stays. -/
theorem FrSt.chg (h : FrSt W wr c v3 v4 v5 v6 kc wc ls sd T L) {m : Nat → Prop} (hc : Chg m wr w') (hm : ∀ x, m x → x < wr.heap.size → c x = 0 ∧ W.heap.size ≤ x) : FrSt W w' c v3 v4 v5 v6 kc wc ls sd T L := by
  have hk : ∀ x, c x ≠ 0 → w'.heap[x]? = wr.heap[x]? := fun x hx => hc.block x (h.top x hx).2 (fun e => hx (hm x e (h.top x hx).2).1)
  have hrow : ∀ (q : Nat) (v : Value), q ≠ 0 → Col c q v → ∀ x, v.ownBlock = some x → w'.heap[x]? = wr.heap[x]? := fun q v hq hcol x hx => hk x (by rw [hcol x hx]; exact hq)
  have hsz := h.low.size
  refine ⟨⟨hc.os.trans h.low.os, hc.tape.trans h.low.tape, hc.output.trans h.low.output, Nat.le_trans h.low.size hc.size, fun x hx => (hc.block x (by omega) (fun e => by have := (hm x e (by omega)).2; omega)).trans (h.low.block x hx)⟩,
    fun x hx => ⟨(h.top x hx).1, Nat.lt_of_lt_of_le (h.top x hx).2 hc.size⟩, owns_keep h.k (hrow 1 _ (by omega) h.kq), h.kq, owns_keep h.w (hrow 2 _ (by omega) h.wq), h.wq, owns_keep h.l (hrow 3 _ (by omega) h.lq), h.lq, owns_keep h.s (hrow 4 _ (by omega) h.sq), h.sq, h.kl, h.wl, h.ll, h.sl, ?_, h.we, ?_, ?_⟩
  · intro j t cs h1 h2
    obtain ⟨bs, ho, hn, hq, r⟩ := h.tr j t cs h1 h2
    exact ⟨bs, ho.move _ (fun x hx => hk x (by rw [hq x hx]; omega)), hn, hq, r⟩
  · intro j M v h1 h2
    obtain ⟨hr, hq, r⟩ := h.li j M v h1 h2
    exact ⟨owns_keep hr (hrow _ _ (by omega) hq), hq, r⟩
  · intro j M v h1 h2
    obtain ⟨hr, hq⟩ := h.sa j M v h1 h2
    exact ⟨owns_keep hr (hrow _ _ (by omega) hq), hq⟩
theorem FrSt.below (h : FrSt W wr c v3 v4 v5 v6 kc wc ls sd T L) (hb : Below wr.heap.size wr w') : FrSt W w' c v3 v4 v5 v6 kc wc ls sd T L := h.chg (m := fun _ => False) ⟨hb.os, hb.tape, hb.output, hb.size, fun x hx _ => hb.block x hx⟩ (fun x hx => hx.elim)
/-- A copy of the end is spoilt: the later ones stay. -/
structure FrK (W wr : World) (c : Nat → Nat) (i : Nat) (v3 v4 v5 v6 : Value) (kc wc : List (Array Value)) (ls sd : List Value) (T : List Ex) (L : List (List Ar)) : Prop where
  low : Below W.heap.size W wr
  top : ∀ x, c x ≠ 0 → W.heap.size ≤ x ∧ x < wr.heap.size
  k : RowX wr W.heap.size v3 kc
  kq : Col c 1 v3
  w : RowX wr W.heap.size v4 wc
  wq : Col c 2 v4
  l : wr.ownsRow W.heap.size 41 1 v5 ls.length ls
  lq : Col c 3 v5
  s : wr.ownsRow W.heap.size 41 1 v6 sd.length sd
  sq : Col c 4 v6
  tr : ∀ (j : Nat) (t : Ex) (cs : Array Value), i ≤ j → T[j]? = some t → kc[j]? = some cs → ∃ bs, Ow wr (.agg cs) t bs ∧ bs.Nodup ∧ (∀ x ∈ bs, c x = 10 + j * 2) ∧ nodesE t ≤ 512 ∧ SmE t
  we : ∀ (j : Nat) (t : Ex) (cs : Array Value), T[j]? = some t → wc[j]? = some cs → Tree W (.agg cs) t
  li : ∀ (j : Nat) (M : List Ar) (v : Value), L[j]? = some M → ls[j]? = some v → RowA wr W.heap.size v M ∧ Col c (11 + j * 2) v ∧ M.length ≤ 512
  sa : ∀ (j : Nat) (M : List Ar) (v : Value), L[j]? = some M → sd[j]? = some v → RowA wr W.heap.size v M ∧ Col c 5 v
theorem FrSt.fin (h : FrSt W wr c v3 v4 v5 v6 kc wc ls sd T L) : FrK W wr c 0 v3 v4 v5 v6 kc wc ls sd T L := ⟨h.low, h.top, h.k, h.kq, h.w, h.wq, h.l, h.lq, h.s, h.sq, fun j t cs _ => h.tr j t cs, h.we, h.li, h.sa⟩
theorem FrK.chg {i i' : Nat} (h : FrK W wr c i v3 v4 v5 v6 kc wc ls sd T L) {m : Nat → Prop} (hc : Chg m wr w') (hi : i ≤ i') (hm : ∀ x, m x → x < wr.heap.size → W.heap.size ≤ x ∧ (c x = 0 ∨ ∃ j, j < i' ∧ c x = 10 + j * 2)) : FrK W w' c i' v3 v4 v5 v6 kc wc ls sd T L := by
  have hk : ∀ x, c x ≠ 0 → (∀ j, j < i' → c x ≠ 10 + j * 2) → w'.heap[x]? = wr.heap[x]? := fun x hx hn => hc.block x (h.top x hx).2 (fun e => by
    rcases (hm x e (h.top x hx).2).2 with e0 | ⟨j, hj, e1⟩
    · exact hx e0
    · exact hn j hj e1)
  have hrow : ∀ (q : Nat) (v : Value), q ≠ 0 → (∀ j, q ≠ 10 + j * 2) → Col c q v → ∀ x, v.ownBlock = some x → w'.heap[x]? = wr.heap[x]? := fun q v hq hj hcol x hx => hk x (by rw [hcol x hx]; exact hq) (fun j _ => by rw [hcol x hx]; exact hj j)
  have hsz := h.low.size
  refine ⟨⟨hc.os.trans h.low.os, hc.tape.trans h.low.tape, hc.output.trans h.low.output, Nat.le_trans h.low.size hc.size, fun x hx => (hc.block x (by omega) (fun e => by have := (hm x e (by omega)).1; omega)).trans (h.low.block x hx)⟩,
    fun x hx => ⟨(h.top x hx).1, Nat.lt_of_lt_of_le (h.top x hx).2 hc.size⟩, owns_keep h.k (hrow 1 _ (by omega) (fun j => by omega) h.kq), h.kq, owns_keep h.w (hrow 2 _ (by omega) (fun j => by omega) h.wq), h.wq, owns_keep h.l (hrow 3 _ (by omega) (fun j => by omega) h.lq), h.lq, owns_keep h.s (hrow 4 _ (by omega) (fun j => by omega) h.sq), h.sq, ?_, h.we, ?_, ?_⟩
  · intro j t cs hj h1 h2
    obtain ⟨bs, ho, hn, hq, r⟩ := h.tr j t cs (by omega) h1 h2
    exact ⟨bs, ho.move _ (fun x hx => hk x (by rw [hq x hx]; omega) (fun j' hj' => by rw [hq x hx]; omega)), hn, hq, r⟩
  · intro j M v h1 h2
    obtain ⟨hr, hq, r⟩ := h.li j M v h1 h2
    exact ⟨owns_keep hr (hrow _ _ (by omega) (fun j' => by omega) hq), hq, r⟩
  · intro j M v h1 h2
    obtain ⟨hr, hq⟩ := h.sa j M v h1 h2
    exact ⟨owns_keep hr (hrow _ _ (by omega) (fun j' => by omega) hq), hq⟩
/-- The i-th copy is spoilt. -/
theorem FrK.spoil {i : Nat} {bs : List Nat} (h : FrK W wr c i v3 v4 v5 v6 kc wc ls sd T L) (hc : Chg (· ∈ bs) wr w') (hq : ∀ x ∈ bs, c x = 10 + i * 2) : FrK W w' c (i + 1) v3 v4 v5 v6 kc wc ls sd T L :=
  h.chg hc (by omega) (fun x hx _ => ⟨(h.top x (by rw [hq x hx]; omega)).1, .inr ⟨i, by omega, hq x hx⟩⟩)
/-- A list of the end is written over: the later ones stay. -/
structure FrL (W wr : World) (c : Nat → Nat) (i : Nat) (v5 v6 : Value) (ls sd : List Value) (L : List (List Ar)) : Prop where
  low : Below W.heap.size W wr
  top : ∀ x, c x ≠ 0 → W.heap.size ≤ x ∧ x < wr.heap.size
  l : wr.ownsRow W.heap.size 41 1 v5 ls.length ls
  lq : Col c 3 v5
  s : wr.ownsRow W.heap.size 41 1 v6 sd.length sd
  sq : Col c 4 v6
  li : ∀ (j : Nat) (M : List Ar) (v : Value), i ≤ j → L[j]? = some M → ls[j]? = some v → RowA wr W.heap.size v M ∧ Col c (11 + j * 2) v ∧ M.length ≤ 512
  sa : ∀ (j : Nat) (M : List Ar) (v : Value), L[j]? = some M → sd[j]? = some v → RowA wr W.heap.size v M ∧ Col c 5 v
theorem FrK.fin {i : Nat} (h : FrK W wr c i v3 v4 v5 v6 kc wc ls sd T L) : FrL W wr c 0 v5 v6 ls sd L := ⟨h.low, h.top, h.l, h.lq, h.s, h.sq, fun j M v _ => h.li j M v, h.sa⟩
theorem FrL.chg {i i' : Nat} (h : FrL W wr c i v5 v6 ls sd L) {m : Nat → Prop} (hc : Chg m wr w') (hi : i ≤ i') (hm : ∀ x, m x → x < wr.heap.size → W.heap.size ≤ x ∧ (c x = 0 ∨ ∃ j, j < i' ∧ c x = 11 + j * 2)) : FrL W w' c i' v5 v6 ls sd L := by
  have hk : ∀ x, c x ≠ 0 → (∀ j, j < i' → c x ≠ 11 + j * 2) → w'.heap[x]? = wr.heap[x]? := fun x hx hn => hc.block x (h.top x hx).2 (fun e => by
    rcases (hm x e (h.top x hx).2).2 with e0 | ⟨j, hj, e1⟩
    · exact hx e0
    · exact hn j hj e1)
  have hrow : ∀ (q : Nat) (v : Value), q ≠ 0 → (∀ j, j < i' → q ≠ 11 + j * 2) → Col c q v → ∀ x, v.ownBlock = some x → w'.heap[x]? = wr.heap[x]? := fun q v hq hj hcol x hx => hk x (by rw [hcol x hx]; exact hq) (fun j hji => by rw [hcol x hx]; exact hj j hji)
  have hsz := h.low.size
  refine ⟨⟨hc.os.trans h.low.os, hc.tape.trans h.low.tape, hc.output.trans h.low.output, Nat.le_trans h.low.size hc.size, fun x hx => (hc.block x (by omega) (fun e => by have := (hm x e (by omega)).1; omega)).trans (h.low.block x hx)⟩,
    fun x hx => ⟨(h.top x hx).1, Nat.lt_of_lt_of_le (h.top x hx).2 hc.size⟩, owns_keep h.l (hrow 3 _ (by omega) (fun j _ => by omega) h.lq), h.lq, owns_keep h.s (hrow 4 _ (by omega) (fun j _ => by omega) h.sq), h.sq, ?_, ?_⟩
  · intro j M v hj h1 h2
    obtain ⟨hr, hq, r⟩ := h.li j M v (by omega) h1 h2
    exact ⟨owns_keep hr (hrow _ _ (by omega) (fun j' hj' => by omega) hq), hq, r⟩
  · intro j M v h1 h2
    obtain ⟨hr, hq⟩ := h.sa j M v h1 h2
    exact ⟨owns_keep hr (hrow _ _ (by omega) (fun j' _ => by omega) hq), hq⟩
end
section
theorem two_get {α : Type} (A : List α) (a b : α) (j : Nat) (x : α) (h : (A ++ [a, b])[j]? = some x) : (A[j]? = some x ∧ j < A.length) ∨ (j = A.length ∧ x = a) ∨ (j = A.length + 1 ∧ x = b) := by
  by_cases hj : j < A.length
  · rw [List.getElem?_append_left hj] at h; exact .inl ⟨h, hj⟩
  · rw [List.getElem?_append_right (by omega)] at h
    by_cases h0 : j = A.length
    · subst h0; simp at h; exact .inr (.inl ⟨rfl, h.symm⟩)
    · by_cases h1 : j = A.length + 1
      · subst h1; simp at h; exact .inr (.inr ⟨rfl, h.symm⟩)
      · obtain ⟨d, hd⟩ : ∃ d, j - A.length = d + 2 := ⟨j - A.length - 2, by omega⟩
        rw [hd] at h; simp at h
theorem one_get {α : Type} (A : List α) (a : α) (j : Nat) (x : α) (h : (A ++ [a])[j]? = some x) : (A[j]? = some x ∧ j < A.length) ∨ (j = A.length ∧ x = a) := by
  by_cases hj : j < A.length
  · rw [List.getElem?_append_left hj] at h; exact .inl ⟨h, hj⟩
  · rw [List.getElem?_append_right (by omega)] at h
    by_cases h0 : j = A.length
    · subst h0; simp at h; exact .inr ⟨rfl, h.symm⟩
    · obtain ⟨d, hd⟩ : ∃ d, j - A.length = d + 1 := ⟨j - A.length - 1, by omega⟩
      rw [hd] at h; simp at h
/-- The new colours: by ranges of blocks, in the order in which they are made. -/
def recol (c : Nat → Nat) (s p0 p1 p2 p3 p4 p5 p6 p7 p8 K M : Nat) : Nat → Nat := fun x =>
  if x < s then c x else if x < p0 then 0 else if x < p1 then 10 + K * 2 else if x < p2 then 11 + M * 2 else if x < p3 then 10 + (K + 1) * 2 else if x < p4 then 1 else if x < p5 then 2 else if x < p6 then 5 else if x < p7 then 3 else if x < p8 then 4 else 0
theorem FrSt.add {W w0 w9 : World} {c : Nat → Nat} {v3 v4 v5 v6 : Value} {kc wc : List (Array Value)} {ls sd : List Value} {T : List Ex} {L : List (List Ar)} (h : FrSt W w0 c v3 v4 v5 v6 kc wc ls sd T L)
    {p0 p1 p2 p3 p4 p5 p6 p7 p8 : Nat} (hp : w0.heap.size ≤ p0 ∧ p0 ≤ p1 ∧ p1 ≤ p2 ∧ p2 ≤ p3 ∧ p3 ≤ p4 ∧ p4 ≤ p5 ∧ p5 ≤ p6 ∧ p6 ≤ p7 ∧ p7 ≤ p8 ∧ p8 ≤ w9.heap.size)
    (hlow : Below W.heap.size W w9) (hk : ∀ x, 5 ≤ c x → w9.heap[x]? = w0.heap[x]?) {v3' v4' v5' v6' : Value} {cy cz ct : Array Value} {vm vw : Value} {t : Ex} {M : List Ar} {bsY bsZ : List Nat}
    (r3 : RowX w9 W.heap.size v3' (kc ++ [cy, cz])) (o3 : v3'.ownBlock = v3.ownBlock ∨ ∃ x, v3'.ownBlock = some x ∧ p3 ≤ x ∧ x < p4)
    (r4 : RowX w9 W.heap.size v4' (wc ++ [ct, ct])) (o4 : v4'.ownBlock = v4.ownBlock ∨ ∃ x, v4'.ownBlock = some x ∧ p4 ≤ x ∧ x < p5)
    (r5 : w9.ownsRow W.heap.size 41 1 v5' (ls ++ [vm]).length (ls ++ [vm])) (o5 : v5'.ownBlock = v5.ownBlock ∨ ∃ x, v5'.ownBlock = some x ∧ p6 ≤ x ∧ x < p7)
    (r6 : w9.ownsRow W.heap.size 41 1 v6' (sd ++ [vw]).length (sd ++ [vw])) (o6 : v6'.ownBlock = v6.ownBlock ∨ ∃ x, v6'.ownBlock = some x ∧ p7 ≤ x ∧ x < p8)
    (hy : Ow w9 (.agg cy) t bsY) (ny : bsY.Nodup) (ry : ∀ x ∈ bsY, p0 ≤ x ∧ x < p1) (hz : Ow w9 (.agg cz) t bsZ) (nz : bsZ.Nodup) (rz : ∀ x ∈ bsZ, p2 ≤ x ∧ x < p3) (hn : nodesE t ≤ 512) (hs : SmE t) (ht : Tree W (.agg ct) t)
    (hm : RowA w9 W.heap.size vm M) (om : ∀ x, vm.ownBlock = some x → p1 ≤ x ∧ x < p2) (lm : M.length ≤ 512) (hw : RowA w9 W.heap.size vw M) (ow : ∀ x, vw.ownBlock = some x → p5 ≤ x ∧ x < p6) :
    FrSt W w9 (recol c w0.heap.size p0 p1 p2 p3 p4 p5 p6 p7 p8 T.length L.length) v3' v4' v5' v6' (kc ++ [cy, cz]) (wc ++ [ct, ct]) (ls ++ [vm]) (sd ++ [vw]) (T ++ [t, t]) (L ++ [M]) := by
  obtain ⟨q0, q1, q2, q3, q4, q5, q6, q7, q8, q9⟩ := hp
  have hW := h.low.size
  have cold : ∀ x q, c x = q → q ≠ 0 → recol c w0.heap.size p0 p1 p2 p3 p4 p5 p6 p7 p8 T.length L.length x = q := fun x q e hq => by
    have := (h.top x (by rw [e]; exact hq)).2
    unfold recol; rw [if_pos this]; exact e
  have crow : ∀ (q : Nat) (v v' : Value) (pa pb : Nat), q ≠ 0 → Col c q v → (v'.ownBlock = v.ownBlock ∨ ∃ x, v'.ownBlock = some x ∧ pa ≤ x ∧ x < pb) → (∀ x, pa ≤ x → x < pb → recol c w0.heap.size p0 p1 p2 p3 p4 p5 p6 p7 p8 T.length L.length x = q) → Col (recol c w0.heap.size p0 p1 p2 p3 p4 p5 p6 p7 p8 T.length L.length) q v' := by
    intro q v v' pa pb hq hcol ho hr x hx
    rcases ho with e | ⟨y, e, ha, hb⟩
    · exact cold x q (hcol x (by rw [← e]; exact hx)) hq
    · rw [e] at hx; cases hx; exact hr _ ha hb
  refine ⟨hlow, fun x hx => ?_, r3, crow 1 v3 v3' p3 p4 (by omega) h.kq o3 (fun x ha hb => ?_), r4, crow 2 v4 v4' p4 p5 (by omega) h.wq o4 (fun x ha hb => ?_), r5, crow 3 v5 v5' p6 p7 (by omega) h.lq o5 (fun x ha hb => ?_), r6, crow 4 v6 v6' p7 p8 (by omega) h.sq o6 (fun x ha hb => ?_),
    by simp [h.kl], by simp [h.wl], by simp [h.ll], by simp [h.sl], ?_, ?_, ?_, ?_⟩
  · unfold recol at hx
    by_cases h1 : x < w0.heap.size
    · rw [if_pos h1] at hx; have := h.top x hx; exact ⟨this.1, by omega⟩
    · refine ⟨by omega, ?_⟩
      by_cases h2 : x < p8
      · omega
      · exfalso; apply hx
        rw [if_neg h1, if_neg (by omega), if_neg (by omega), if_neg (by omega), if_neg (by omega), if_neg (by omega), if_neg (by omega), if_neg (by omega), if_neg (by omega), if_neg h2]
  · unfold recol; rw [if_neg (by omega), if_neg (by omega), if_neg (by omega), if_neg (by omega), if_neg (by omega), if_pos hb]
  · unfold recol; rw [if_neg (by omega), if_neg (by omega), if_neg (by omega), if_neg (by omega), if_neg (by omega), if_neg (by omega), if_pos hb]
  · unfold recol; rw [if_neg (by omega), if_neg (by omega), if_neg (by omega), if_neg (by omega), if_neg (by omega), if_neg (by omega), if_neg (by omega), if_neg (by omega), if_pos hb]
  · unfold recol; rw [if_neg (by omega), if_neg (by omega), if_neg (by omega), if_neg (by omega), if_neg (by omega), if_neg (by omega), if_neg (by omega), if_neg (by omega), if_neg (by omega), if_pos hb]
  · intro j u cs h1 h2
    rcases two_get T t t j u h1 with ⟨e1, hj⟩ | ⟨ej, e1⟩ | ⟨ej, e1⟩
    · rcases two_get kc cy cz j cs h2 with ⟨e2, _⟩ | ⟨e2, _⟩ | ⟨e2, _⟩
      · obtain ⟨bs, ho, hn', hq, r⟩ := h.tr j u cs e1 e2
        exact ⟨bs, ho.move _ (fun x hx => hk x (by rw [hq x hx]; omega)), hn', fun x hx => cold x _ (hq x hx) (by omega), r⟩
      · have := h.kl; omega
      · have := h.kl; omega
    · rcases two_get kc cy cz j cs h2 with ⟨_, e2⟩ | ⟨e2, e3⟩ | ⟨e2, _⟩
      · have := h.kl; omega
      · subst e1 e3 ej
        exact ⟨bsY, hy, ny, fun x hx => by have := ry x hx; unfold recol; rw [if_neg (by omega), if_neg (by omega), if_pos (by omega)], hn, hs⟩
      · have := h.kl; omega
    · rcases two_get kc cy cz j cs h2 with ⟨_, e2⟩ | ⟨e2, _⟩ | ⟨e2, e3⟩
      · have := h.kl; omega
      · have := h.kl; omega
      · subst e1 e3 ej
        exact ⟨bsZ, hz, nz, fun x hx => by have := rz x hx; unfold recol; rw [if_neg (by omega), if_neg (by omega), if_neg (by omega), if_neg (by omega), if_pos (by omega)], hn, hs⟩
  · intro j u cs h1 h2
    rcases two_get wc ct ct j cs h2 with ⟨e2, hj⟩ | ⟨ej, e2⟩ | ⟨ej, e2⟩
    · rcases two_get T t t j u h1 with ⟨e1, _⟩ | ⟨e1, _⟩ | ⟨e1, _⟩
      · exact h.we j u cs e1 e2
      · have := h.wl; omega
      · have := h.wl; omega
    · rcases two_get T t t j u h1 with ⟨_, e1⟩ | ⟨_, e1⟩ | ⟨_, e1⟩
      · have := h.wl; omega
      · rw [e1, e2]; exact ht
      · rw [e1, e2]; exact ht
    · rcases two_get T t t j u h1 with ⟨_, e1⟩ | ⟨_, e1⟩ | ⟨_, e1⟩
      · have := h.wl; omega
      · rw [e1, e2]; exact ht
      · rw [e1, e2]; exact ht
  · intro j N v h1 h2
    rcases one_get L M j N h1 with ⟨e1, hj⟩ | ⟨ej, e1⟩
    · rcases one_get ls vm j v h2 with ⟨e2, _⟩ | ⟨e2, _⟩
      · obtain ⟨hr, hq, r⟩ := h.li j N v e1 e2
        exact ⟨owns_keep hr (fun x hx => hk x (by rw [hq x hx]; omega)), fun x hx => cold x _ (hq x hx) (by omega), r⟩
      · have := h.ll; omega
    · rcases one_get ls vm j v h2 with ⟨_, e2⟩ | ⟨_, e2⟩
      · have := h.ll; omega
      · subst e1 e2 ej
        exact ⟨hm, fun x hx => by have := om x hx; unfold recol; rw [if_neg (by omega), if_neg (by omega), if_neg (by omega), if_pos (by omega)], lm⟩
  · intro j N v h1 h2
    rcases one_get L M j N h1 with ⟨e1, hj⟩ | ⟨ej, e1⟩
    · rcases one_get sd vw j v h2 with ⟨e2, _⟩ | ⟨e2, _⟩
      · obtain ⟨hr, hq⟩ := h.sa j N v e1 e2
        exact ⟨owns_keep hr (fun x hx => hk x (by rw [hq x hx]; omega)), fun x hx => cold x _ (hq x hx) (by omega)⟩
      · have := h.sl; omega
    · rcases one_get sd vw j v h2 with ⟨_, e2⟩ | ⟨_, e2⟩
      · have := h.sl; omega
      · subst e1 e2
        exact ⟨hw, fun x hx => by have := ow x hx; unfold recol; rw [if_neg (by omega), if_neg (by omega), if_neg (by omega), if_neg (by omega), if_neg (by omega), if_neg (by omega), if_neg (by omega), if_pos (by omega)]⟩
end
section
/-- What Reads answers, in one form. -/
def rdR (t : Ex) : List Ar := if mayR t = 0 then readsE t else []
theorem readsP_any {w w' : World} {t : Ex} {e : Ending} (h : ReadsP w t e w') : ∃ a len cap, e = .returned (.tuple #[.slice a len cap, .int .i64 (mayR t)]) ∧ RowA w' w.heap.size (.slice a len cap) (rdR t) ∧ Below w.heap.size w w' := by
  unfold rdR
  rcases h with ⟨h0, he, hb⟩ | ⟨h0, a, len, cap, he, hr, hb⟩
  · rw [if_neg h0]; exact ⟨none, 0, 0, he, ⟨rfl, .inl ⟨rfl, rfl⟩⟩, hb⟩
  · rw [if_pos h0, h0]; exact ⟨a, len, cap, he, hr, hb⟩
theorem rdR_len {t : Ex} (h : nodesE t ≤ 512) : (rdR t).length ≤ 512 := by
  unfold rdR
  split
  · have := reads_len t; omega
  · exact Nat.zero_le _
/-- The laid tree, the copy and the list that are to stay: x's things lie in [B, C), l's in [D, E). -/
structure Lc (w : World) (A B C D E F : Nat) (n : Nd) (ks : List Ex) (M : List Ar) (st sy vm : Value) (bsT bsY : List Nat) (tB yB : Nat) : Prop where
  ord : A ≤ B ∧ B ≤ C ∧ C ≤ D ∧ D ≤ E ∧ E ≤ F ∧ F ≤ w.heap.size
  t : Ly w (exV n st) (.mk n ks) bsT
  tn : bsT.Nodup
  tr : ∀ x ∈ bsT, A ≤ x ∧ x < B
  tb : Blk w tB (exC n st) 29
  tbr : A ≤ tB ∧ tB < B
  tba : tB ∉ bsT
  y : Ow w (exV n sy) (.mk n ks) bsY
  yn : bsY.Nodup
  yr : ∀ x ∈ bsY, C ≤ x ∧ x < D
  yb : Blk w yB (exC n sy) 29
  ybr : C ≤ yB ∧ yB < D
  m : RowA w E vm M
  mr : ∀ x, vm.ownBlock = some x → E ≤ x ∧ x < F
variable {w w' : World} {A B C D E F : Nat} {n : Nd} {ks : List Ex} {M : List Ar} {st sy vm : Value} {bsT bsY : List Nat} {tB yB : Nat}
theorem Lc.chg (h : Lc w A B C D E F n ks M st sy vm bsT bsY tB yB) {m : Nat → Prop} (hc : Chg m w w') (hm : ∀ x, m x → x < F → (B ≤ x ∧ x < C) ∨ (D ≤ x ∧ x < E)) : Lc w' A B C D E F n ks M st sy vm bsT bsY tB yB := by
  obtain ⟨o1, o2, o3, o4, o5, o6⟩ := h.ord
  have hk : ∀ x, x < F → ¬ ((B ≤ x ∧ x < C) ∨ (D ≤ x ∧ x < E)) → w'.heap[x]? = w.heap[x]? := fun x hx hn => hc.block x (by omega) (fun e => hn (hm x e hx))
  exact ⟨⟨o1, o2, o3, o4, o5, Nat.le_trans o6 hc.size⟩, h.t.move _ (fun x hx => hk x (by have := h.tr x hx; omega) (by have := h.tr x hx; omega)), h.tn, h.tr, (hk tB (by have := h.tbr; omega) (by have := h.tbr; omega)).trans h.tb, h.tbr, h.tba,
    h.y.move _ (fun x hx => hk x (by have := h.yr x hx; omega) (by have := h.yr x hx; omega)), h.yn, h.yr, (hk yB (by have := h.ybr; omega) (by have := h.ybr; omega)).trans h.yb, h.ybr, owns_keep h.m (fun x hx => hk x (by have := h.mr x hx; omega) (by have := h.mr x hx; omega)), h.mr⟩
theorem Lc.step (h : Lc w A B C D E F n ks M st sy vm bsT bsY tB yB) (hb : Below w.heap.size w w') : Lc w' A B C D E F n ks M st sy vm bsT bsY tB yB := h.chg (m := fun _ => False) ⟨hb.os, hb.tape, hb.output, hb.size, fun x hx _ => hb.block x hx⟩ (fun x hx => hx.elim)
theorem Lc.tree (h : Lc w A B C D E F n ks M st sy vm bsT bsY tB yB) (hs : SmE (.mk n ks)) : Tree w (exV n st) (.mk n ks) := (Ly.ow _ h.t).in' _ (fun x hx => by have := h.tr x hx; have := h.ord; omega) hs
theorem Lc.ytree (h : Lc w A B C D E F n ks M st sy vm bsT bsY tB yB) (hs : SmE (.mk n ks)) : Tree w (exV n sy) (.mk n ks) := h.y.in' _ (fun x hx => by have := h.yr x hx; have := h.ord; omega) hs
/-- What the round has made when x and l are to be written over. -/
theorem lc_start {w1 w2 w3 w4 w5 w6 : World} {sx vl : Value} {bsX : List Nat} (hLy : Ly w2 (exV n st) (.mk n ks) bsT) (hTn : bsT.Nodup) (hTr : ∀ x ∈ bsT, w1.heap.size ≤ x ∧ x < w2.heap.size) (h12 : Below w1.heap.size w1 w2)
    (hX : New (w2.alloc (exO n st)) w3 (exV n sx) (.mk n ks) bsX) (h23 : Below (w2.alloc (exO n st)).heap.size (w2.alloc (exO n st)) w3) (hY : New (w3.alloc (exO n sx)) w4 (exV n sy) (.mk n ks) bsY) (h34 : Below (w3.alloc (exO n sx)).heap.size (w3.alloc (exO n sx)) w4)
    (hl : RowA w5 (w4.alloc (exO n sy)).heap.size vl M) (h45 : Below (w4.alloc (exO n sy)).heap.size (w4.alloc (exO n sy)) w5) (hm : RowA w6 w5.heap.size vm M) (h56 : Below w5.heap.size w5 w6) :
    Lc w6 w1.heap.size (w2.heap.size + 1) (w3.heap.size + 1) (w4.heap.size + 1) w5.heap.size w6.heap.size n ks M st sy vm bsT bsY w2.heap.size w4.heap.size ∧
    (Ow w6 (exV n sx) (.mk n ks) bsX ∧ bsX.Nodup ∧ (∀ x ∈ bsX, w2.heap.size + 1 ≤ x ∧ x < w3.heap.size + 1) ∧ Blk w6 w3.heap.size (exC n sx) 29) ∧
    (RowA w6 (w4.heap.size + 1) vl M ∧ ∀ x, vl.ownBlock = some x → w4.heap.size + 1 ≤ x ∧ x < w5.heap.size) ∧ Below w1.heap.size w1 w6 := by
  have z2 : (w2.alloc (exO n st)).heap.size = w2.heap.size + 1 := by simp
  have z3 : (w3.alloc (exO n sx)).heap.size = w3.heap.size + 1 := by simp
  have z4 : (w4.alloc (exO n sy)).heap.size = w4.heap.size + 1 := by simp
  have s12 := h12.size
  have s23 := h23.size
  have s34 := h34.size
  have s45 := h45.size
  have s56 := h56.size
  rw [z2] at s23
  rw [z3] at s34
  rw [z4] at s45
  have k5 : ∀ x, x < w5.heap.size → w6.heap[x]? = w5.heap[x]? := h56.block
  have k4 : ∀ x, x < w4.heap.size + 1 → w6.heap[x]? = (w4.alloc (exO n sy)).heap[x]? := fun x hx => (k5 x (by omega)).trans (h45.block x (by omega))
  have k4' : ∀ x, x < w4.heap.size → w6.heap[x]? = w4.heap[x]? := fun x hx => (k4 x (by omega)).trans (Below.heap_alloc _ _ x hx)
  have k3 : ∀ x, x < w3.heap.size + 1 → w6.heap[x]? = (w3.alloc (exO n sx)).heap[x]? := fun x hx => (k4' x (by omega)).trans (h34.block x (by omega))
  have k3' : ∀ x, x < w3.heap.size → w6.heap[x]? = w3.heap[x]? := fun x hx => (k3 x (by omega)).trans (Below.heap_alloc _ _ x hx)
  have k2 : ∀ x, x < w2.heap.size + 1 → w6.heap[x]? = (w2.alloc (exO n st)).heap[x]? := fun x hx => (k3' x (by omega)).trans (h23.block x (by omega))
  have k2' : ∀ x, x < w2.heap.size → w6.heap[x]? = w2.heap[x]? := fun x hx => (k2 x (by omega)).trans (Below.heap_alloc _ _ x hx)
  have xr : ∀ x ∈ bsX, w2.heap.size + 1 ≤ x ∧ x < w3.heap.size := fun x hx => by have := hX.at' x hx; omega
  have yr : ∀ x ∈ bsY, w3.heap.size + 1 ≤ x ∧ x < w4.heap.size := fun x hx => by have := hY.at' x hx; omega
  have lr := owns_lt hl
  have mr := owns_lt hm
  refine ⟨⟨⟨by omega, by omega, by omega, by omega, by omega, by omega⟩, hLy.move _ (fun x hx => k2' x (hTr x hx).2), hTn, fun x hx => by have := hTr x hx; omega, (k2 _ (by omega)).trans (Blk.new w2 _ _), ⟨by omega, by omega⟩, fun hx => by have := hTr _ hx; omega,
      hY.ow.move _ (fun x hx => k4' x (yr x hx).2), hY.nd, fun x hx => by have := yr x hx; omega, (k4 _ (by omega)).trans (Blk.new w4 _ _), ⟨by omega, by omega⟩, hm, fun x hx => mr x hx⟩,
    ⟨hX.ow.move _ (fun x hx => k3' x (xr x hx).2), hX.nd, fun x hx => by have := xr x hx; omega, (k3 _ (by omega)).trans (Blk.new w3 _ _)⟩, ⟨?_, fun x hx => by have := lr x hx; omega⟩, ?_⟩
  · rw [← z4]; exact owns_keep hl (fun x hx => k5 x (lr x hx).2)
  · refine ⟨h56.os.trans (h45.os.trans (h34.os.trans (h23.os.trans h12.os))), h56.tape.trans (h45.tape.trans (h34.tape.trans (h23.tape.trans h12.tape))), h56.output.trans (h45.output.trans (h34.output.trans (h23.output.trans h12.output))), by omega, fun x hx => (k2' x (by omega)).trans (h12.block x hx)⟩
end
end Go.Proofs.Ytgopolelpckjcaa
