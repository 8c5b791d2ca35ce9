/- ShiftFresh: what is kept to the end, told apart by colours of blocks: the Book 1, 2, 3, its lists 9; the Quiet 4, 6, 7, what should be 5, its trees 10; those that are left 8. No Go in sight. ShiftFresh's rounds: what a call leaves; what the rounds keep; Keep, Take, Whole, Untouched told of it. No Go in sight. ShiftFresh's rounds: the append, Take, Whole, Untouched, and the second Book, told of what the rounds keep. No Go in sight. -/
import Derived.Test.YtiajoppbgebnpaaKpJ
import Derived.Test.YtiajoppbgebnpaaBt12
import Derived.Test.YtiajoppbgebnpaaBwJ
import Derived.Test.YtiajoppbgebnpaaCfJ
namespace Go.Proofs.Ytiajoppbgebnpaa
open Go.RowKit Go.Sort
set_option linter.unusedVariables false

/-- The row's own block has the colour. -/
def Col (c : Nat → Nat) (k : Nat) (v : Value) : Prop := ∀ x, v.ownBlock = some x → c x = k
theorem OwK.get {w : World} : ∀ {css : List (Array Value)} {ks : List Ex} {bs : List Nat}, OwK w css ks bs → ∀ (j : Nat) (t : Ex) (cs : Array Value), ks[j]? = some t → css[j]? = some cs → ∃ b1, (∀ x ∈ b1, x ∈ bs) ∧ Ow w (.agg cs) t b1
  | [], [], bs, h, j, t, cs, h1, h2 => by simp at h1
  | c :: css, k :: r, bs, h, 0, t, cs, h1, h2 => by
    obtain ⟨b1, b2, rfl, o1, _⟩ := h
    have e1 : k = t := by simpa using h1
    have e2 : c = cs := by simpa using h2
    subst e1 e2
    exact ⟨b1, fun x hx => List.mem_append_left _ hx, o1⟩
  | c :: css, k :: r, bs, h, j + 1, t, cs, h1, h2 => by
    obtain ⟨b1, b2, rfl, _, o2⟩ := h
    obtain ⟨d, hs, ho⟩ := OwK.get o2 j t cs (by simpa using h1) (by simpa using h2)
    exact ⟨d, fun x hx => List.mem_append_right _ (hs x hx), ho⟩
  | [], k :: r, bs, h, j, t, cs, h1, h2 => h.elim
  | c :: css, [], bs, h, j, t, cs, h1, h2 => h.elim
theorem OwK.lt {w : World} : ∀ {css : List (Array Value)} {ks : List Ex} {bs : List Nat}, OwK w css ks bs → ∀ x ∈ bs, x < w.heap.size
  | [], [], bs, h, x, hx => by
    have : bs = [] := h
    subst this
    cases hx
  | c :: css, k :: r, bs, h, x, hx => by
    obtain ⟨b1, b2, rfl, o1, o2⟩ := h
    rcases List.mem_append.1 hx with hx | hx
    · exact Ow.lt k o1 x hx
    · exact OwK.lt o2 x hx
  | [], k :: r, bs, h, x, hx => h.elim
  | c :: css, [], bs, h, x, hx => h.elim
theorem nodes9_snoc : ∀ (l : List Ex) (t : Ex), nodesL9 (l ++ [t]) = nodesL9 l + nodesE t
  | [], t => by simp [nodesL9]
  | k :: r, t => by rw [List.cons_append, nodesL9, nodesL9, nodes9_snoc r t]; omega
/-- The quiet part. -/
structure FqS (W wr : World) (c : Nat → Nat) (q : Nat) (vT vW vF : Value) (css wss fss : List (Array Value)) (T : List Ex) (bl : List Nat) : Prop where
  low : Below W.heap.size W wr
  top : ∀ x, c x ≠ 0 → W.heap.size ≤ x ∧ x < wr.heap.size
  qst : QuAt wr W.heap.size q vT vW css wss
  fst : RowX wr W.heap.size vF fss
  own : OwK wr css T bl
  nd : bl.Nodup
  want : ∀ (j : Nat) (t : Ex) (cs : Array Value), T[j]? = some t → wss[j]? = some cs → In (fun k => k < W.heap.size ∨ c k = 5) wr (.agg cs) t
  cq : c q = 4
  cT : Col c 6 vT
  cW : Col c 7 vW
  cF : Col c 8 vF
  cl : ∀ x ∈ bl, c x = 10
  sm : ∀ t ∈ T, SmE t ∧ nodesE t ≤ 2000
  sum : nodesL9 T ≤ 2000 * T.length
/-- The loud part. -/
structure FbS (W wr : World) (c : Nat → Nat) (bk : Nat) (vL vN : Value) (s : Nat) (tk : List Lst) : Prop where
  top : ∀ x, c x ≠ 0 → W.heap.size ≤ x ∧ x < wr.heap.size
  bst : BookSt wr W.heap.size bk vL vN s tk
  cb : c bk = 1
  cL : Col c 2 vL
  cN : Col c 3 vN
  ck : ∀ x ∈ tk, c x.g = 9
section
variable {W wr w' : World} {c : Nat → Nat} {bk q : Nat} {vL vN vT vW vF : Value} {s : Nat} {tk : List Lst} {css wss fss : List (Array Value)} {T : List Ex} {bl : List Nat}
theorem below_chg9 {m : Nat → Prop} (h : Below W.heap.size W wr) (hc : Chg m wr w') (hm : ∀ x, m x → x < wr.heap.size → W.heap.size ≤ x) : Below W.heap.size W w' :=
  ⟨hc.os.trans h.os, hc.tape.trans h.tape, hc.output.trans h.output, Nat.le_trans h.size hc.size, fun x hx => (hc.block x (Nat.lt_of_lt_of_le hx h.size) (fun e => by have := hm x e (Nat.lt_of_lt_of_le hx h.size); omega)).trans (h.block x hx)⟩
theorem FqS.chg {m : Nat → Prop} (h : FqS W wr c q vT vW vF css wss fss T bl) (hc : Chg m wr w') (hm : ∀ x, m x → x < wr.heap.size → W.heap.size ≤ x ∧ (c x < 4 ∨ c x = 9)) : FqS W w' c q vT vW vF css wss fss T bl := by
  have hk : ∀ x, x < wr.heap.size → 4 ≤ c x → c x ≠ 9 → w'.heap[x]? = wr.heap[x]? := fun x hx h1 h2 => hc.block x hx (fun e => by have := (hm x e hx).2; omega)
  have hlo : ∀ x, x < W.heap.size → w'.heap[x]? = wr.heap[x]? := fun x hx => hc.block x (Nat.lt_of_lt_of_le hx h.low.size) (fun e => by have := (hm x e (Nat.lt_of_lt_of_le hx h.low.size)).1; omega)
  have hr : ∀ (k : Nat) (v : Value) (l : List (Array Value)), 4 ≤ k → k ≠ 9 → Col c k v → RowX wr W.heap.size v l → RowX w' W.heap.size v l := fun k v l h1 h2 hcol hrow => owns_keep hrow (fun x hx => hk x (owns_lt hrow x hx).2 (by rw [hcol x hx]; exact h1) (by rw [hcol x hx]; exact h2))
  refine ⟨below_chg9 h.low hc (fun x e hx => (hm x e hx).1), fun x hx => ⟨(h.top x hx).1, Nat.lt_of_lt_of_le (h.top x hx).2 hc.size⟩, ⟨(hk q h.qst.blk.lt (by rw [h.cq]; omega) (by rw [h.cq]; omega)).trans h.qst.blk, hr 6 _ _ (by omega) (by omega) h.cT h.qst.ts, hr 7 _ _ (by omega) (by omega) h.cW h.qst.ws, h.qst.ne, h.qst.len⟩, hr 8 _ _ (by omega) (by omega) h.cF h.fst, h.own.move (fun x hx => hk x (h.own.lt x hx) (by rw [h.cl x hx]; omega) (by rw [h.cl x hx]; omega)), h.nd, fun j t cs h1 h2 => (h.want j t cs h1 h2).move (fun k hk' => ⟨hk', ?_⟩), h.cq, h.cT, h.cW, h.cF, h.cl, h.sm, h.sum⟩
  rcases hk' with e | e
  · exact hlo k e
  · exact hk k (h.top k (by omega)).2 (by omega) (by omega)
theorem FqS.below (h : FqS W wr c q vT vW vF css wss fss T bl) (hb : Below wr.heap.size wr w') : FqS W w' c q vT vW vF css wss fss T bl := h.chg (m := fun _ => False) (Chg.of_below hb) (fun x e => e.elim)
theorem FbS.chg {m : Nat → Prop} (h : FbS W wr c bk vL vN s tk) (hc : Chg m wr w') (hm : ∀ x, m x → x < wr.heap.size → c x ≠ 1 ∧ c x ≠ 2 ∧ c x ≠ 3 ∧ c x ≠ 9) : FbS W w' c bk vL vN s tk := by
  refine ⟨fun x hx => ⟨(h.top x hx).1, Nat.lt_of_lt_of_le (h.top x hx).2 hc.size⟩, ?_, h.cb, h.cL, h.cN, h.ck⟩
  refine h.bst.chg (m := fun x => m x ∧ x < wr.heap.size) ⟨hc.os, hc.tape, hc.output, hc.size, fun x hx hn => hc.block x hx (fun e => hn ⟨e, hx⟩)⟩ (fun e => (hm bk e.1 e.2).1 h.cb) (fun x hx e => (hm x e.1 e.2).2.1 (h.cL x hx)) (fun x hx e => (hm x e.1 e.2).2.2.1 (h.cN x hx)) (fun x hx e => (hm x.g e.1 e.2).2.2.2 (h.ck x hx))
theorem FbS.below (h : FbS W wr c bk vL vN s tk) (hb : Below wr.heap.size wr w') : FbS W w' c bk vL vN s tk := h.chg (m := fun _ => False) (Chg.of_below hb) (fun x e => e.elim)
/-- New colours for what had none. -/
structure Fine (c c' : Nat → Nat) : Prop where
  old : ∀ x, c x ≠ 0 → c' x = c x
theorem FbS.paint {c' : Nat → Nat} (h : FbS W wr c bk vL vN s tk) (hf : Fine c c') (ht : ∀ x, c' x ≠ 0 → W.heap.size ≤ x ∧ x < wr.heap.size) : FbS W wr c' bk vL vN s tk :=
  ⟨ht, h.bst, by rw [hf.old bk (by rw [h.cb]; omega)]; exact h.cb, fun x hx => by rw [hf.old x (by rw [h.cL x hx]; omega)]; exact h.cL x hx, fun x hx => by rw [hf.old x (by rw [h.cN x hx]; omega)]; exact h.cN x hx, fun x hx => by rw [hf.old x.g (by rw [h.ck x hx]; omega)]; exact h.ck x hx⟩
theorem FqS.paint {c' : Nat → Nat} (h : FqS W wr c q vT vW vF css wss fss T bl) (hf : Fine c c') (ht : ∀ x, c' x ≠ 0 → W.heap.size ≤ x ∧ x < wr.heap.size) : FqS W wr c' q vT vW vF css wss fss T bl :=
  ⟨h.low, ht, h.qst, h.fst, h.own, h.nd, fun j t cs h1 h2 => (h.want j t cs h1 h2).move (fun k hk => ⟨by rcases hk with e | e; exact .inl e; exact .inr (by rw [hf.old k (by omega)]; exact e), rfl⟩), by rw [hf.old q (by rw [h.cq]; omega)]; exact h.cq, fun x hx => by rw [hf.old x (by rw [h.cT x hx]; omega)]; exact h.cT x hx, fun x hx => by rw [hf.old x (by rw [h.cW x hx]; omega)]; exact h.cW x hx, fun x hx => by rw [hf.old x (by rw [h.cF x hx]; omega)]; exact h.cF x hx, fun x hx => by rw [hf.old x (by rw [h.cl x hx]; omega)]; exact h.cl x hx, h.sm, h.sum⟩
end
end Go.Proofs.Ytiajoppbgebnpaa
namespace Go.Proofs.Ytiajoppbgebnpaa
open Go.RowKit Go.Sort
set_option linter.unusedVariables false

/-- The error of a call and its tree: the zero tree where it is refused. -/
def outN (er : Int) (u : Ex) : Ex := if er = 0 then u else .mk nd0 []
theorem er_all {K M : Int} {u : Ex} (h : clEr K M u = 0) : allE u = true := by
  have hm : mayR u = 0 := by
    unfold clEr at h
    by_cases k1 : K = 1
    · rwa [if_pos k1] at h
    rw [if_neg k1] at h
    by_cases hq : mayR u = 0
    · exact hq
    · by_cases k2 : K = 2
      · rw [if_pos k2] at h; unfold spotR at h; rw [if_neg hq] at h; exact h
      · rw [if_neg k2] at h; unfold spotR at h; rw [if_neg hq] at h; exact h
  unfold mayR at hm
  split at hm
  · split at hm
    · assumption
    · omega
  · omega
theorem nil_in (m : Nat → Prop) (w : World) : In m w (exV nd0 (.slice none 0 0)) (.mk nd0 []) := by unfold In; exact ⟨none, 0, 0, rfl, rfl, by decide, by decide, .inl rfl⟩
theorem nil_ow (w : World) : Ow w (exV nd0 (.slice none 0 0)) (.mk nd0 []) [] := by unfold Ow; exact ⟨none, 0, 0, rfl, rfl, .inl ⟨rfl, rfl, rfl, rfl⟩⟩
theorem in_any {m m' : Nat → Prop} {w : World} : ∀ (t : Ex) {v v' : Value}, Ow w v t [] → In m w v' t → In m' w v' t
  | .mk nd ks, v, v', h, hi => by
    obtain ⟨_, len, _, _, hl, h⟩ := h.un
    have h0 : ks.length = 0 := by
      rcases h with ⟨_, h0, _⟩ | ⟨b, cells, bs', _, e, _⟩
      · omega
      · cases e
    unfold In at hi ⊢
    obtain ⟨a, l, c, e1, e2, e3, e4, _⟩ := hi
    exact ⟨a, l, c, e1, e2, e3, e4, .inl (by omega)⟩
mutual
theorem Ow.blen {w : World} : ∀ (t : Ex) {v : Value} {bs : List Nat}, Ow w v t bs → bs.length ≤ nodesE t
  | .mk nd ks, v, bs, h => by
    obtain ⟨_, len, _, _, hl, h⟩ := h.un
    rw [nodesL_is]
    rcases h with ⟨_, _, _, rfl⟩ | ⟨b, cells, bs', _, rfl, _, _, _, hk⟩
    · simp
    · have := OwL.blen ks hk
      simp only [List.length_cons]
      omega
theorem OwL.blen {w : World} {b : Nat} : ∀ (ks : List Ex) {o : Nat} {bs : List Nat}, OwL w b o ks bs → bs.length ≤ nodesL9 ks
  | [], o, bs, h => by
    unfold OwL at h
    subst h
    simp
  | k :: r, o, bs, h => by
    unfold OwL at h
    obtain ⟨cs, b1, b2, rfl, h1, _, h3⟩ := h
    have q1 := Ow.blen k h1
    have q2 := OwL.blen r h3
    rw [List.length_append, nodesL9]
    omega
end
/-- What a call of the law leaves: the answer of its own, what should be of old blocks and of newer ones. -/
def XP (G : Nat) (u : Ex) (wp w5 : World) (s1 s2 : Value) : Prop :=
  ∃ (bs : List Nat) (N : Nat), bs.Nodup ∧ (∀ x ∈ bs, wp.heap.size ≤ x ∧ x < N) ∧ wp.heap.size ≤ N ∧ Ow w5 (exV u.nd s1) u bs ∧ In (OldN G N w5.heap.size) w5 (exV u.nd s2) u
theorem call_x {K M N : Int} {u : Ex} {nd tn : Nd} {a1 a2 : Option Addr} {l1 c1 l2 c2 G : Nat} {w : World} (h1 : Tree w (exV tn (.slice a1 l1 c1)) u) (hG : G ≤ w.heap.size) (h2 : In (· < G) w (exV nd (.slice a2 l2 c2)) u) :
    Calls Try.prog 7 #[.agg (opX K M N nd (.slice a2 l2 c2)), exV tn (.slice a1 l1 c1)] w fun e w'' => ∃ (ra : Option Addr) (rl rc : Nat) (qa : Option Addr) (ql qc : Nat), e = .returned (.tuple #[exV (outN (clEr K M u) (movE (clMv K M N) u)).nd (.slice ra rl rc), .int .i64 (clEr K M u), exV (outN (clEr K M u) (movE (clMv K M N) u)).nd (.slice qa ql qc), .int .i64 (clEr K M u)]) ∧ XP G (outN (clEr K M u) (movE (clMv K M N) u)) w w'' (.slice ra rl rc) (.slice qa ql qc) ∧ Below w.heap.size w w'' := by
  refine (call_any K M N u tn nd a1 a2 l1 c1 l2 c2 w h1 G hG h2).mono fun e w'' h => ?_
  unfold outN
  rcases h with ⟨he, rfl, hb⟩ | ⟨he, a, len, cap, bs, a', len', cap', rfl, hN, ⟨N', hN', hT⟩, hb⟩
  · rw [if_neg he]
    exact ⟨none, 0, 0, none, 0, 0, rfl, ⟨[], w.heap.size, List.nodup_nil, (fun x hx => by cases hx), Nat.le_refl _, nil_ow _, nil_in _ _⟩, hb⟩
  · rw [if_pos he, he]
    refine ⟨a, len, cap, a', len', cap', rfl, ?_, hb⟩
    cases bs with
    | nil => exact ⟨[], w.heap.size, List.nodup_nil, (fun x hx => by cases hx), Nat.le_refl _, hN.ow, in_any _ hN.ow hT⟩
    | cons b r => exact ⟨b :: r, N', hN.nd, fun x hx => ⟨(hN.at' x hx).1, (hN' x hx).2⟩, by have q1 := (hN.at' b (List.mem_cons_self ..)).1; have q2 := (hN' b (List.mem_cons_self ..)).2; omega, hN.ow, hT⟩
theorem outN_nodes {er : Int} {u : Ex} {f : Mv} (h : nodesE u ≤ 2000) : nodesE (outN er (movE f u)) ≤ 2000 := by
  unfold outN
  split
  · rw [mov_nodes]; exact h
  · rw [nodesL_is, nodesL9]; omega
/-- The same, as it is seen when it is used. -/
def XQ (G : Nat) (u : Ex) (wr w7 : World) (s1 s2 : Value) : Prop :=
  ∃ (bs : List Nat) (N S : Nat), bs.Nodup ∧ (∀ x ∈ bs, wr.heap.size ≤ x ∧ x < N) ∧ wr.heap.size ≤ N ∧ S ≤ w7.heap.size ∧ Ow w7 (exV u.nd s1) u bs ∧ In (OldN G N S) w7 (exV u.nd s2) u
theorem XQ.of {G X5 X7 : Nat} {u : Ex} {wr wp w5 w6 : World} {s1 s2 : Value} (hb : Below wr.heap.size wr wp) (hx : XP G u wp w5 s1 s2) (hb5 : Below wp.heap.size wp w5) (hc : Chg (fun k => k = X5 ∨ k = X7) w5 w6) (h5 : X5 < wp.heap.size ∨ w5.heap.size ≤ X5) (h7 : X7 < wp.heap.size ∨ w5.heap.size ≤ X7) (g5 : wr.heap.size ≤ X5) (g7 : wr.heap.size ≤ X7) (hG : G ≤ wr.heap.size) : XQ G u wr w6 s1 s2 := by
  obtain ⟨bs, N, n1, n2, n3, n4, n5⟩ := hx
  have z1 := hb.size
  have z5 := hb5.size
  have hlt := Ow.lt u n4
  refine ⟨bs, N, w5.heap.size, n1, fun x hx => ⟨Nat.le_trans z1 (n2 x hx).1, (n2 x hx).2⟩, Nat.le_trans z1 n3, hc.size, n4.move u (fun x hx => hc.block x (hlt x hx) (fun e => ?_)), n5.move (fun k hk => ⟨hk, ?_⟩) u⟩
  · have q1 := (n2 x hx).1
    have q2 := hlt x hx
    omega
  · rcases hk with e | ⟨e1, e2⟩
    · exact hc.block k (by omega) (by omega)
    · exact hc.block k e2 (by omega)
theorem XQ.below {G : Nat} {u : Ex} {wr w6 w7 : World} {s1 s2 : Value} (h : XQ G u wr w6 s1 s2) (hG : G ≤ w6.heap.size) (hb : Below w6.heap.size w6 w7) : XQ G u wr w7 s1 s2 := by
  obtain ⟨bs, N, S, n1, n2, n3, n4, n5, n6⟩ := h
  exact ⟨bs, N, S, n1, n2, n3, Nat.le_trans n4 hb.size, n5.move u (fun x hx => hb.block x (Ow.lt u n5 x hx)), n6.move (fun k hk => ⟨hk, hb.block k (by rcases hk with e | ⟨_, e⟩ <;> omega)⟩) u⟩
theorem XQ.trees {G : Nat} {u : Ex} {wr w7 : World} {s1 s2 : Value} (h : XQ G u wr w7 s1 s2) (hG : G ≤ w7.heap.size) : Tree w7 (exV u.nd s1) u ∧ Tree w7 (exV u.nd s2) u := by
  obtain ⟨bs, N, S, n1, n2, n3, n4, n5, n6⟩ := h
  have sm := n6.sm u
  exact ⟨n5.in' u (Ow.lt u n5) sm, n6.wide (fun k hk => by rcases hk with e | ⟨_, e⟩ <;> omega)⟩
/-- What the rounds keep. -/
structure FrS (W wr : World) (c : Nat → Nat) (bk q : Nat) (vF : Value) (r : Nat) (vL vN vT vW : Value) (s : Nat) (tk : List Lst) (css wss fss : List (Array Value)) (T : List Ex) (bl : List Nat) (wt : World) (K : Nat → Prop) : Prop where
  fq : FqS W wr c q vT vW vF css wss fss T bl
  fb : FbS W wr c bk vL vN s tk
  r1 : T.length ≤ r
  r2 : tk.length ≤ 2000 * r
  r3 : s ≤ 40000000000 * r
  kp : ∀ x, K x → c x = 0 ∧ x < wr.heap.size ∧ wr.heap[x]? = wt.heap[x]?
def FrP (W wr : World) (bk q : Nat) (vF : Value) (r : Nat) (wt : World) (K : Nat → Prop) : Prop := ∃ c vL vN vT vW s tk css wss T bl, FrS W wr c bk q vF r vL vN vT vW s tk css wss css T bl wt K
/-- Behind Keep, ahead of the append. -/
def FrK (W wr : World) (bk q : Nat) (vF : Value) (r : Nat) (css : List (Array Value)) (ct : Array Value) (wt : World) (K : Nat → Prop) : Prop := ∃ c vL vN vT vW s tk wss T bl, FrS W wr c bk q vF r vL vN vT vW s tk (css ++ [ct]) wss css T bl wt K
/-- Behind Whole. -/
def FqP (W wr : World) (q : Nat) (vF : Value) (r : Nat) : Prop := ∃ c vT vW css wss T bl, FqS W wr c q vT vW vF css wss css T bl ∧ T.length ≤ r
section
variable {W wr w' wt : World} {K : Nat → Prop} {bk q r : Nat} {vF : Value}
theorem FrP.below (h : FrP W wr bk q vF r wt K) (hb : Below wr.heap.size wr w') : FrP W w' bk q vF r wt K := by
  obtain ⟨c, vL, vN, vT, vW, s, tk, css, wss, T, bl, h1, h2, h3, h4, h5, h6⟩ := h
  exact ⟨c, vL, vN, vT, vW, s, tk, css, wss, T, bl, h1.below hb, h2.below hb, h3, h4, h5, fun x e => by obtain ⟨a1, a2, a3⟩ := h6 x e; exact ⟨a1, Nat.lt_of_lt_of_le a2 hb.size, (hb.block x a2).trans a3⟩⟩
theorem FrP.up {r' : Nat} (h : FrP W wr bk q vF r wt K) (hr : r ≤ r') : FrP W wr bk q vF r' wt K := by
  obtain ⟨c, vL, vN, vT, vW, s, tk, css, wss, T, bl, h1, h2, h3, h4, h5, h6⟩ := h
  exact ⟨c, vL, vN, vT, vW, s, tk, css, wss, T, bl, h1, h2, by omega, by omega, by omega, h6⟩
theorem FrP.arm {wt' : World} {K' : Nat → Prop} (h : FrP W wr bk q vF r wt' K') (hb : Below wr.heap.size wr wt) (hK : ∀ x, K x → wr.heap.size ≤ x ∧ x < wt.heap.size) : FrP W wt bk q vF r wt K := by
  obtain ⟨c, vL, vN, vT, vW, s, tk, css, wss, T, bl, h1, h2, h3, h4, h5, h6⟩ := h
  refine ⟨c, vL, vN, vT, vW, s, tk, css, wss, T, bl, h1.below hb, h2.below hb, h3, h4, h5, fun x e => ?_⟩
  have q1 := hK x e
  refine ⟨?_, q1.2, rfl⟩
  by_cases e0 : c x = 0
  · exact e0
  · have := (h1.top x e0).2; omega
theorem FrP.idle {wt' : World} (h : FrP W wr bk q vF r wt K) (hb : Below wr.heap.size wr w') : FrP W w' bk q vF r wt' (fun _ => False) := by
  obtain ⟨c, vL, vN, vT, vW, s, tk, css, wss, T, bl, h1, h2, h3, h4, h5, h6⟩ := h
  exact ⟨c, vL, vN, vT, vW, s, tk, css, wss, T, bl, h1.below hb, h2.below hb, h3, h4, h5, fun x e => e.elim⟩
theorem FrP.at' (h : FrP W wr bk q vF r wt K) (x : Nat) (hx : K x) : x < wr.heap.size ∧ wr.heap[x]? = wt.heap[x]? := by
  obtain ⟨c, vL, vN, vT, vW, s, tk, css, wss, T, bl, h1, h2, h3, h4, h5, h6⟩ := h
  exact (h6 x hx).2
theorem FrP.low (h : FrP W wr bk q vF r wt K) : Below W.heap.size W wr := by
  obtain ⟨c, vL, vN, vT, vW, s, tk, css, wss, T, bl, h1, _⟩ := h
  exact h1.low
theorem FrK.below {css : List (Array Value)} {ct : Array Value} (h : FrK W wr bk q vF r css ct wt K) (hb : Below wr.heap.size wr w') : FrK W w' bk q vF r css ct wt K := by
  obtain ⟨c, vL, vN, vT, vW, s, tk, wss, T, bl, h1, h2, h3, h4, h5, h6⟩ := h
  exact ⟨c, vL, vN, vT, vW, s, tk, wss, T, bl, h1.below hb, h2.below hb, h3, h4, h5, fun x e => by obtain ⟨a1, a2, a3⟩ := h6 x e; exact ⟨a1, Nat.lt_of_lt_of_le a2 hb.size, (hb.block x a2).trans a3⟩⟩
theorem FrK.low {css : List (Array Value)} {ct : Array Value} (h : FrK W wr bk q vF r css ct wt K) : Below W.heap.size W wr := by
  obtain ⟨c, vL, vN, vT, vW, s, tk, wss, T, bl, h1, _⟩ := h
  exact h1.low
theorem FrK.row {css : List (Array Value)} {ct : Array Value} (h : FrK W wr bk q vF r css ct wt K) (hr : r ≤ 1000) : RowX wr W.heap.size vF css ∧ css.length < 1000000 := by
  obtain ⟨c, vL, vN, vT, vW, s, tk, wss, T, bl, h1, h2, h3, h4, h5, h6⟩ := h
  have := h1.own.len.1
  rw [List.length_append] at this
  exact ⟨h1.fst, by simp at this; omega⟩
theorem FrP.start {z : Value} (hz : z = .slice none 0 0) (hb : Below W.heap.size W wr) (h1 : Blk wr bk (bkC z z 0) 28) (h2 : Blk wr q #[z, z] 32) (g1 : W.heap.size ≤ bk) (g2 : W.heap.size ≤ q) (hne : bk ≠ q) : FrP W wr bk q z 0 wt (fun _ => False) := by
  subst hz
  have hc : ∀ x, (if x = bk then 1 else if x = q then 4 else 0) ≠ 0 → W.heap.size ≤ x ∧ x < wr.heap.size := fun x hx => by
    by_cases e1 : x = bk
    · subst e1; exact ⟨g1, h1.lt⟩
    · rw [if_neg e1] at hx
      by_cases e2 : x = q
      · subst e2; exact ⟨g2, h2.lt⟩
      · rw [if_neg e2] at hx; exact absurd rfl hx
  have hrow : RowX wr W.heap.size (.slice none 0 0) [] := ⟨rfl, .inl ⟨rfl, rfl⟩⟩
  have hcol : ∀ k, Col (fun x => if x = bk then 1 else if x = q then 4 else 0) k (.slice none 0 0) := fun k x hx => by cases hx
  refine ⟨fun x => if x = bk then 1 else if x = q then 4 else 0, .slice none 0 0, .slice none 0 0, .slice none 0 0, .slice none 0 0, 0, [], [], [], [], [], ⟨hb, hc, ⟨h2, hrow, hrow, (fun x hx => by cases hx), rfl⟩, hrow, rfl, List.nodup_nil, (fun j t cs h => by simp at h), ?_, hcol _, hcol _, hcol _, (fun x hx => by cases hx), (fun x hx => by cases hx), by simp [nodesL9]⟩, ⟨hc, ⟨h1, ⟨rfl, .inl ⟨rfl, rfl⟩⟩, ⟨rfl, .inl ⟨rfl, rfl⟩⟩, (fun j x hj => by simp at hj), List.nodup_nil, g1⟩, ?_, hcol _, hcol _, fun x hx => by cases hx⟩, by simp, by simp, by simp, fun x e => e.elim⟩
  · show (if q = bk then 1 else if q = q then 4 else 0) = 4
    rw [if_neg (fun e => hne e.symm), if_pos rfl]
  · show (if bk = bk then 1 else if bk = q then 4 else 0) = 1
    rw [if_pos rfl]
/-- What Keep leaves of it all. -/
theorem keep_fr {u : Ex} {w7 : World} {ta wa : Option Addr} {tl tc wl wc : Nat} (h : FrP W wr bk q vF r wt K) (hr : r ≤ 1000) (hb : Below wr.heap.size wr w7) (hx : XQ W.heap.size u wr w7 (.slice ta tl tc) (.slice wa wl wc)) (hn : nodesE u ≤ 2000) :
    Calls Try.prog 9 #[.pointer (some ⟨q, 0, none⟩), exV u.nd (.slice ta tl tc), exV u.nd (.slice wa wl wc)] w7 fun e w' => e = .returned (.tuple #[]) ∧ (∃ css, FrK W w' bk q vF (r + 1) css (exC u.nd (.slice ta tl tc)) wt K) ∧ w7.heap.size ≤ w'.heap.size ∧ ∀ x, wr.heap.size ≤ x → x < w7.heap.size → w'.heap[x]? = w7.heap[x]? := by
  obtain ⟨c, vL, vN, vT, vW, s, tk, css, wss, T, bl, h1, h2, h3, h4, h5, h6⟩ := h
  have ht := h1.top
  have hsz := hb.size
  have k1 := h1.below hb
  have k2 := h2.below hb
  have hlT := h1.own.len.1
  have hWs := k1.low.size
  refine (keep_any w7 W.heap.size q vT vW css wss u.nd u.nd ta wa tl tc wl wc k1.qst (by omega) hWs).mono ?_
  rintro e w8 ⟨rfl, vT', vW', hq, hc, oT, oW⟩
  obtain ⟨bs, N, S, n1, n2, n3, n4, n5, n6⟩ := hx
  have hbl := Ow.lt u n5
  have z8 := hc.size
  have hz : ∀ x, wr.heap.size ≤ x → c x = 0 := fun x hx => by
    by_cases e : c x = 0
    · exact e
    · have := (ht x e).2; omega
  have hm : ∀ x, (x = q ∨ vT.ownBlock = some x ∨ vW.ownBlock = some x) → c x = 4 ∨ c x = 6 ∨ c x = 7 := fun x hx => by
    rcases hx with rfl | e | e
    · exact .inl h1.cq
    · exact .inr (.inl (h1.cT x e))
    · exact .inr (.inr (h1.cW x e))
  have hst : ∀ x, x < w7.heap.size → c x ≠ 4 → c x ≠ 6 → c x ≠ 7 → w8.heap[x]? = w7.heap[x]? := fun x hx a1 a2 a3 => hc.block x hx (fun e => by rcases hm x e with e | e | e <;> omega)
  have hTn : ∀ x, vT'.ownBlock = some x → c x = 6 ∨ w7.heap.size ≤ x := fun x hx => by
    rcases oT with e | ⟨y, e, hy⟩
    · exact .inl (h1.cT x (e ▸ hx))
    · rw [e] at hx; cases hx; exact .inr hy
  have hWn : ∀ x, vW'.ownBlock = some x → c x = 7 ∨ w7.heap.size ≤ x := fun x hx => by
    rcases oW with e | ⟨y, e, hy⟩
    · exact .inl (h1.cW x (e ▸ hx))
    · rw [e] at hx; cases hx; exact .inr hy
  have hTl : ∀ x, vT'.ownBlock = some x → x < w8.heap.size ∧ W.heap.size ≤ x := fun x hx => by have := owns_lt hq.ts x hx; exact ⟨this.2, this.1⟩
  have hWl : ∀ x, vW'.ownBlock = some x → x < w8.heap.size ∧ W.heap.size ≤ x := fun x hx => by have := owns_lt hq.ws x hx; exact ⟨this.2, this.1⟩
  let d : Nat → Nat := fun x => if c x ≠ 0 then c x else if x ∈ bs then 10 else if vT'.ownBlock = some x then 6 else if vW'.ownBlock = some x then 7 else if N ≤ x ∧ x < S then 5 else 0
  have hd : ∀ x, d x = if c x ≠ 0 then c x else if x ∈ bs then 10 else if vT'.ownBlock = some x then 6 else if vW'.ownBlock = some x then 7 else if N ≤ x ∧ x < S then 5 else 0 := fun x => rfl
  have hf : Fine c d := ⟨fun x hx => by rw [hd, if_pos hx]⟩
  have hold : ∀ x k, k ≠ 0 → c x = k → d x = k := fun x k hk e => by rw [hf.old x (by omega)]; exact e
  have htop : ∀ x, d x ≠ 0 → W.heap.size ≤ x ∧ x < w8.heap.size := fun x hx => by
    by_cases e0 : c x ≠ 0
    · have := ht x e0; omega
    rw [hd, if_neg e0] at hx
    by_cases e1 : x ∈ bs
    · have q1 := n2 x e1; have q2 := hbl x e1; have q3 := h1.low.size; omega
    rw [if_neg e1] at hx
    by_cases e2 : vT'.ownBlock = some x
    · have := hTl x e2; omega
    rw [if_neg e2] at hx
    by_cases e3 : vW'.ownBlock = some x
    · have := hWl x e3; omega
    rw [if_neg e3] at hx
    by_cases e4 : N ≤ x ∧ x < S
    · have q3 := h1.low.size; omega
    rw [if_neg e4] at hx
    exact absurd rfl hx
  have hbs : ∀ x ∈ bs, d x = 10 := fun x hx => by rw [hd, if_neg (by rw [hz x (n2 x hx).1]; simp), if_pos hx]
  have hNS : ∀ x, N ≤ x → x < S → d x = 5 := fun x e1 e2 => by
    have hc0 := hz x (by omega)
    rw [hd, if_neg (by rw [hc0]; simp), if_neg (fun e => by have := (n2 x e).2; omega), if_neg (fun e => by rcases hTn x e with e | e <;> omega), if_neg (fun e => by rcases hWn x e with e | e <;> omega), if_pos ⟨e1, e2⟩]
  have hlow8 : Below W.heap.size W w8 := below_chg9 k1.low hc (fun x e hx => by have := hm x e; exact (ht x (by omega)).1)
  have hml : wss.length = T.length := by rw [← hlT]; exact h1.qst.len.symm
  refine ⟨rfl, ⟨css, ?_⟩, z8, fun x a1 a2 => by have q1 := hz x a1; exact hst x a2 (by omega) (by omega) (by omega)⟩
  refine ⟨d, vL, vN, vT', vW', s, tk, wss ++ [exC u.nd (.slice wa wl wc)], T ++ [u], bl ++ bs, ⟨hlow8, htop, hq, ?_, ?_, ?_, ?_, hold _ _ (by omega) h1.cq, ?_, ?_, fun x hx => hold _ _ (by omega) (h1.cF x hx), ?_, ?_, ?_⟩, ?_, ?_, by omega, by omega, ?_⟩
  · exact owns_keep k1.fst (fun x hx => by have q1 := h1.cF x hx; exact hst x (owns_lt k1.fst x hx).2 (by omega) (by omega) (by omega))
  · exact OwK.snoc (k1.own.move (fun x hx => by have q1 := h1.cl x hx; exact hst x (k1.own.lt x hx) (by omega) (by omega) (by omega))) (n5.move u (fun x hx => by have q1 := hz x (n2 x hx).1; exact hst x (hbl x hx) (by omega) (by omega) (by omega)))
  · exact List.nodup_append.2 ⟨h1.nd, n1, fun x hx y hy e => by subst e; have q1 := h1.own.lt x hx; have q2 := (n2 x hy).1; omega⟩
  · intro j t cs e1 e2
    have hs0 : ∀ k, k < W.heap.size → w8.heap[k]? = w7.heap[k]? := fun k hk => by
      have q0 : c k = 0 := by
        by_cases e : c k = 0
        · exact e
        · have := (ht k e).1; omega
      exact hst k (by omega) (by omega) (by omega) (by omega)
    by_cases hj : j < T.length
    · rw [List.getElem?_append_left hj] at e1
      rw [List.getElem?_append_left (by omega)] at e2
      refine (k1.want j t cs e1 e2).move (fun k hk => ?_) t
      rcases hk with e | e
      · exact ⟨.inl e, hs0 k e⟩
      · exact ⟨.inr (hold k 5 (by omega) e), hst k (by have := (ht k (by omega)).2; omega) (by omega) (by omega) (by omega)⟩
    · rw [List.getElem?_append_right (by omega)] at e1 e2
      have hj0 : j - T.length = 0 := by
        by_cases e : j - T.length = 0
        · exact e
        · rw [List.getElem?_eq_none (by simp; omega)] at e1; cases e1
      rw [hj0] at e1
      rw [hml, hj0] at e2
      have e1' : u = t := by simpa using e1
      have e2' : exC u.nd (.slice wa wl wc) = cs := by simpa using e2
      subst e1' e2'
      refine n6.move (fun k hk => ?_) u
      rcases hk with e | ⟨a1, a2⟩
      · exact ⟨.inl e, hs0 k e⟩
      · have q1 := hz k (by omega)
        exact ⟨.inr (hNS k a1 a2), hst k (by omega) (by omega) (by omega) (by omega)⟩
  · intro x hx
    rcases hTn x hx with e | e
    · exact hold _ _ (by omega) e
    · rw [hd, if_neg (by rw [hz x (by omega)]; simp), if_neg (fun e' => by have := hbl x e'; omega), if_pos hx]
  · intro x hx
    rcases hWn x hx with e | e
    · exact hold _ _ (by omega) e
    · rw [hd, if_neg (by rw [hz x (by omega)]; simp), if_neg (fun e' => by have := hbl x e'; omega), if_neg (fun e' => hq.ne x e' hx), if_pos hx]
  · intro x hx
    rcases List.mem_append.1 hx with e | e
    · exact hold _ _ (by omega) (h1.cl x e)
    · exact hbs x e
  · intro t e
    rcases List.mem_append.1 e with e | e
    · exact h1.sm t e
    · have : t = u := by simpa using e
      subst this
      exact ⟨n6.sm t, hn⟩
  · have := h1.sum
    rw [nodes9_snoc, List.length_append]
    simp only [List.length_cons, List.length_nil]
    omega
  · exact (k2.chg hc (fun x e hx => by have := hm x e; omega)).paint hf htop
  · rw [List.length_append]
    simp only [List.length_cons, List.length_nil]
    omega
  · intro x e
    obtain ⟨a1, a2, a3⟩ := h6 x e
    refine ⟨?_, by omega, (hst x (by omega) (by omega) (by omega) (by omega)).trans ((hb.block x a2).trans a3)⟩
    rw [hd, if_neg (by rw [a1]; simp), if_neg (fun e' => by have := n2 x e'; omega), if_neg (fun e' => by rcases hTn x e' with q1 | q1 <;> omega), if_neg (fun e' => by rcases hWn x e' with q1 | q1 <;> omega), if_neg (by omega)]
end
end Go.Proofs.Ytiajoppbgebnpaa
namespace Go.Proofs.Ytiajoppbgebnpaa
open Go.RowKit Go.Sort
set_option linter.unusedVariables false

theorem FrK.app {W w8 w9 wt : World} {K : Nat → Prop} {bk q r : Nat} {vF v' : Value} {css : List (Array Value)} {ct : Array Value} (h : FrK W w8 bk q vF r css ct wt K) (hr : RowX w9 W.heap.size v' (css ++ [ct])) (hg : w8.grownBy w9 vF.ownBlock) (ho : v'.ownBlock = vF.ownBlock ∨ v'.ownBlock = some w8.heap.size) : FrP W w9 bk q v' r wt K := by
  obtain ⟨c, vL, vN, vT, vW, s, tk, wss, T, bl, h1, h2, h3, h4, h5, h6⟩ := h
  have hc : Chg (fun x => vF.ownBlock = some x) w8 w9 := Chg.of_grown hg (fun k e => e)
  have ht := h1.top
  have hm : ∀ x, vF.ownBlock = some x → c x = 8 := h1.cF
  have z9 := hc.size
  have hz8 : c w8.heap.size = 0 := by
    by_cases e : c w8.heap.size = 0
    · exact e
    · have := (ht _ e).2; omega
  let d : Nat → Nat := fun x => if c x ≠ 0 then c x else if v'.ownBlock = some x then 8 else 0
  have hd : ∀ x, d x = if c x ≠ 0 then c x else if v'.ownBlock = some x then 8 else 0 := fun x => rfl
  have hf : Fine c d := ⟨fun x hx => by rw [hd, if_pos hx]⟩
  have hold : ∀ x k, k ≠ 0 → c x = k → d x = k := fun x k hk e => by rw [hf.old x (by omega)]; exact e
  have htop : ∀ x, d x ≠ 0 → W.heap.size ≤ x ∧ x < w9.heap.size := fun x hx => by
    by_cases e0 : c x ≠ 0
    · have := ht x e0; omega
    rw [hd, if_neg e0] at hx
    by_cases e2 : v'.ownBlock = some x
    · exact owns_lt hr x e2
    rw [if_neg e2] at hx
    exact absurd rfl hx
  have hst : ∀ x, x < w8.heap.size → c x ≠ 8 → w9.heap[x]? = w8.heap[x]? := fun x hx a1 => hc.block x hx (fun e => a1 (hm x e))
  have hQ : QuAt w9 W.heap.size q vT vW (css ++ [ct]) wss := h1.qst.chg hc (fun e => by have q1 := hm q e; have q2 := h1.cq; omega) (fun x e e' => by have q1 := hm x e'; have q2 := h1.cT x e; omega) (fun x e e' => by have q1 := hm x e'; have q2 := h1.cW x e; omega)
  refine ⟨d, vL, vN, vT, vW, s, tk, css ++ [ct], wss, T, bl, ⟨below_chg9 h1.low hc (fun x e hx => (ht x (by rw [hm x e]; omega)).1), htop, hQ, hr, h1.own.move (fun x hx => hst x (h1.own.lt x hx) (by rw [h1.cl x hx]; omega)), h1.nd, fun j t cs e1 e2 => (h1.want j t cs e1 e2).move (fun k hk => ?_) t, hold _ _ (by omega) h1.cq, fun x hx => hold _ _ (by omega) (h1.cT x hx), fun x hx => hold _ _ (by omega) (h1.cW x hx), fun x hx => ?_, fun x hx => hold _ _ (by omega) (h1.cl x hx), h1.sm, h1.sum⟩, (h2.chg hc (fun x e hx => by have := hm x e; omega)).paint hf htop, h3, h4, h5, fun x e => ?_⟩
  · rcases hk with e | e
    · refine ⟨.inl e, hst k (Nat.lt_of_lt_of_le e h1.low.size) (fun e' => ?_)⟩
      have := (ht k (by omega)).1
      omega
    · exact ⟨.inr (hold k 5 (by omega) e), hst k (ht k (by omega)).2 (by omega)⟩
  · by_cases e0 : c x = 0
    · rw [hd, if_neg (by rw [e0]; simp), if_pos hx]
    · rcases ho with e | e
      · exact hold _ _ (by omega) (hm x (e ▸ hx))
      · rw [e] at hx
        cases hx
        exact absurd hz8 e0
  · obtain ⟨a1, a2, a3⟩ := h6 x e
    refine ⟨?_, by omega, (hst x a2 (by omega)).trans a3⟩
    rw [hd, if_neg (by rw [a1]; simp), if_neg (fun e' => ?_)]
    rcases ho with q1 | q1
    · have := hm x (q1 ▸ e'); omega
    · rw [q1] at e'
      cases e'
      omega
section
variable {W wr wt : World} {K : Nat → Prop} {bk q r : Nat} {vF : Value}
theorem take_fr {u : Ex} {w7 : World} {ta wa : Option Addr} {tl tc wl wc X : Nat} (h : FrP W wr bk q vF r wt K) (hr : r ≤ 300) (hb : Below wr.heap.size wr w7) (hx : XQ W.heap.size u wr w7 (.slice ta tl tc) (.slice wa wl wc)) (hX : w7.rangeAt X 0 (exC u.nd (.slice ta tl tc)).toList) (hn : nodesE u ≤ 2000) :
    Calls Try.prog 10 #[ptr bk 0, .slice (some ⟨X, 0, none⟩) 1 1] w7 fun e w' => e = .returned (.tuple #[]) ∧ FrP W w' bk q vF (r + 1) wt K := by
  obtain ⟨c, vL, vN, vT, vW, s, tk, css, wss, T, bl, h1, h2, h3, h4, h5, h6⟩ := h
  have ht := h1.top
  have hsz := hb.size
  have k1 := h1.below hb
  have k2 := h2.below hb
  obtain ⟨bs, N, S, n1, n2, n3, n4, n5, n6⟩ := hx
  have hbl := Ow.lt u n5
  have hz : ∀ x, wr.heap.size ≤ x → c x = 0 := fun x hx => by
    by_cases e : c x = 0
    · exact e
    · have := (ht x e).2; omega
  have hOw : OwL w7 X 0 [u] bs := by
    unfold OwL
    refine ⟨exC u.nd (.slice ta tl tc), bs, [], by simp, n5, hX, ?_⟩
    unfold OwL
    rfl
  have hXs : X < w7.heap.size := World.block_lt_of_cell? w7 ⟨X, _, none⟩ (hX 0 _ rfl)
  have hs1 : nodesL9 [u] = nodesE u := by rw [nodesL9, nodesL9]; omega
  refine (take_any w7 W.heap.size bk X 1 1 (some ⟨X, 0, none⟩) vL vN s tk [u] bs k2.bst (.inl rfl) rfl hOw (fun _ => hXs) n1 (fun x hx e => ?_) (fun t e => ?_) (by rw [hs1]; omega) (by omega)).mono ?_
  · obtain ⟨y, hy, he⟩ := List.mem_map.1 e
    have q1 := h2.ck y hy
    have q2 := (n2 x hx).1
    have q3 := hz x q2
    rw [he] at q1
    omega
  · have : t = u := by simpa using e
    subst this
    exact hn
  rintro e w8 ⟨rfl, vL', vN', s', zs, hs', hB, hsub, hc, oL, oN⟩
  refine ⟨rfl, ?_⟩
  have z8 := hc.size
  have hzs : ∀ x ∈ zs, x.g ∈ bs := fun x hx => hsub.subset (List.mem_map_of_mem hx)
  have hm : ∀ x, (x = bk ∨ vL.ownBlock = some x ∨ vN.ownBlock = some x ∨ x ∈ bs) → c x = 1 ∨ c x = 2 ∨ c x = 3 ∨ (c x = 0 ∧ W.heap.size ≤ x) := fun x hx => by
    rcases hx with rfl | e | e | e
    · exact .inl h2.cb
    · exact .inr (.inl (h2.cL x e))
    · exact .inr (.inr (.inl (h2.cN x e)))
    · exact .inr (.inr (.inr ⟨hz x (n2 x e).1, Nat.le_trans h1.low.size (n2 x e).1⟩))
  have hLn : ∀ x, vL'.ownBlock = some x → c x = 2 ∨ w7.heap.size ≤ x := fun x hx => by
    rcases oL with e | ⟨y, e, hy⟩
    · exact .inl (h2.cL x (e ▸ hx))
    · rw [e] at hx; cases hx; exact .inr hy
  have hNn : ∀ x, vN'.ownBlock = some x → c x = 3 ∨ w7.heap.size ≤ x := fun x hx => by
    rcases oN with e | ⟨y, e, hy⟩
    · exact .inl (h2.cN x (e ▸ hx))
    · rw [e] at hx; cases hx; exact .inr hy
  let d : Nat → Nat := fun x => if c x ≠ 0 then c x else if x ∈ zs.map Lst.g then 9 else if vL'.ownBlock = some x then 2 else if vN'.ownBlock = some x then 3 else 0
  have hd : ∀ x, d x = if c x ≠ 0 then c x else if x ∈ zs.map Lst.g then 9 else if vL'.ownBlock = some x then 2 else if vN'.ownBlock = some x then 3 else 0 := fun x => rfl
  have hf : Fine c d := ⟨fun x hx => by rw [hd, if_pos hx]⟩
  have hold : ∀ x k, k ≠ 0 → c x = k → d x = k := fun x k hk e => by rw [hf.old x (by omega)]; exact e
  have hzm : ∀ x, x ∈ zs.map Lst.g → x ∈ bs := fun x hx => hsub.subset hx
  have htop : ∀ x, d x ≠ 0 → W.heap.size ≤ x ∧ x < w8.heap.size := fun x hx => by
    by_cases e0 : c x ≠ 0
    · have := ht x e0; omega
    rw [hd, if_neg e0] at hx
    by_cases e1 : x ∈ zs.map Lst.g
    · have q1 := n2 x (hzm x e1); have q2 := hbl x (hzm x e1); have q3 := h1.low.size; omega
    rw [if_neg e1] at hx
    by_cases e2 : vL'.ownBlock = some x
    · have := owns_lt hB.row x e2; omega
    rw [if_neg e2] at hx
    by_cases e3 : vN'.ownBlock = some x
    · have := owns_lt hB.num x e3; omega
    rw [if_neg e3] at hx
    exact absurd rfl hx
  have k1' : FqS W w8 c q vT vW vF css wss css T bl := k1.chg hc (fun x e hx => by
    rcases hm x e with e | e | e | ⟨e, e'⟩
    · exact ⟨(ht x (by omega)).1, .inl (by omega)⟩
    · exact ⟨(ht x (by omega)).1, .inl (by omega)⟩
    · exact ⟨(ht x (by omega)).1, .inl (by omega)⟩
    · exact ⟨e', .inl (by omega)⟩)
  have hzl : zs.length ≤ 2000 := by
    have q1 := hsub.length_le
    rw [List.length_map] at q1
    have q2 := Ow.blen u n5
    omega
  refine ⟨d, vL', vN', vT, vW, s', tk ++ zs, css, wss, T, bl, k1'.paint hf htop, ⟨htop, hB, hold _ _ (by omega) h2.cb, fun x hx => ?_, fun x hx => ?_, fun x hx => ?_⟩, by omega, by rw [List.length_append]; omega, by rw [hs1] at hs'; omega, fun x e => ?_⟩
  · rcases hLn x hx with e | e
    · exact hold _ _ (by omega) e
    · rw [hd, if_neg (by rw [hz x (by omega)]; simp), if_neg (fun e' => by have := hbl x (hzm x e'); omega), if_pos hx]
  · rcases hNn x hx with e | e
    · exact hold _ _ (by omega) e
    · rw [hd, if_neg (by rw [hz x (by omega)]; simp), if_neg (fun e' => by have := hbl x (hzm x e'); omega), if_neg (fun e' => hB.rows.2.2 x e' hx), if_pos hx]
  · rcases List.mem_append.1 hx with e | e
    · exact hold _ _ (by omega) (h2.ck x e)
    · rw [hd, if_neg (by rw [hz x.g (n2 x.g (hzs x e)).1]; simp), if_pos (List.mem_map_of_mem e)]
  · obtain ⟨a1, a2, a3⟩ := h6 x e
    refine ⟨?_, by omega, (hc.block x (by omega) (fun e' => ?_)).trans ((hb.block x a2).trans a3)⟩
    · rw [hd, if_neg (by rw [a1]; simp), if_neg (fun e' => by have := (n2 x (hzm x e')).1; omega), if_neg (fun e' => by rcases hLn x e' with q1 | q1 <;> omega), if_neg (fun e' => by rcases hNn x e' with q1 | q1 <;> omega)]
    · rcases e' with rfl | q1 | q1 | q1
      · have := h2.cb; omega
      · have := h2.cL x q1; omega
      · have := h2.cN x q1; omega
      · have := (n2 x q1).1; omega
theorem whole_fr (h : FrP W wr bk q vF r wt K) (hr : r ≤ 300) : Calls Try.prog 12 #[ptr bk 0] wr fun e w' => e = .returned (.bool true) ∧ FqP W w' q vF r := by
  obtain ⟨c, vL, vN, vT, vW, s, tk, css, wss, T, bl, h1, h2, h3, h4, h5, h6⟩ := h
  refine (whole_any wr W.heap.size bk vL vN s tk h2.bst (by omega)).mono ?_
  rintro e w' ⟨rfl, hc⟩
  refine ⟨rfl, c, vT, vW, css, wss, T, bl, h1.chg hc (fun x e hx => ?_), h3⟩
  rcases e with e | e
  · have := h2.cL x e
    exact ⟨(h1.top x (by omega)).1, .inl (by omega)⟩
  · obtain ⟨y, hy, rfl⟩ := List.mem_map.1 e
    have := h2.ck y hy
    exact ⟨(h1.top y.g (by omega)).1, .inr this⟩
theorem FqP.below {w' : World} (h : FqP W wr q vF r) (hb : Below wr.heap.size wr w') : FqP W w' q vF r := by
  obtain ⟨c, vT, vW, css, wss, T, bl, h1, h3⟩ := h
  exact ⟨c, vT, vW, css, wss, T, bl, h1.below hb, h3⟩
theorem FqP.low (h : FqP W wr q vF r) : Below W.heap.size W wr := by
  obtain ⟨c, vT, vW, css, wss, T, bl, h1, h3⟩ := h
  exact h1.low
theorem untouched_fr (h : FqP W wr q vF r) (hr : r ≤ 300) : Calls Try.prog 13 #[.pointer (some ⟨q, 0, none⟩)] wr fun e w' => e = .returned (.bool true) ∧ Below wr.heap.size wr w' := by
  obtain ⟨c, vT, vW, css, wss, T, bl, h1, h3⟩ := h
  refine untouched_any wr W.heap.size q vT vW css wss T h1.qst h1.own.len.1 (by omega) (fun j t cs e1 e2 => ?_) (fun j t cs e1 e2 => ?_)
  · obtain ⟨b1, hs, ho⟩ := h1.own.get j t cs e1 e2
    exact ho.in' t (Ow.lt t ho) (h1.sm t (List.mem_of_getElem? e1)).1
  · refine (h1.want j t cs e1 e2).wide (fun k hk => ?_)
    rcases hk with e | e
    · exact Nat.lt_of_lt_of_le e h1.low.size
    · exact (h1.top k (by omega)).2
/-- The second Book. -/
def BoP (W w : World) (bk : Nat) : Prop := Below W.heap.size W w ∧ ∃ vL vN s tk, BookSt w W.heap.size bk vL vN s tk ∧ tk.length ≤ 900000 ∧ ∀ x ∈ tk, W.heap.size ≤ x.g
theorem BoP.below {w w' : World} (h : BoP W w bk) (hb : Below w.heap.size w w') : BoP W w' bk := by
  obtain ⟨h0, vL, vN, s, tk, h1, h2, h3⟩ := h
  exact ⟨next h0 hb, vL, vN, s, tk, h1.below hb, h2, h3⟩
theorem left_fr {la : Option Addr} {ll lc : Nat} (h : FqP W wr q (.slice la ll lc) r) (hr : r ≤ 300) (hB : Blk wr bk (bkC (.slice none 0 0) (.slice none 0 0) 0) 28) (hg : W.heap.size ≤ bk) : Calls Try.prog 10 #[ptr bk 0, .slice la ll lc] wr fun e w' => e = .returned (.tuple #[]) ∧ BoP W w' bk := by
  obtain ⟨c, vT, vW, css, wss, T, bl, h1, h3⟩ := h
  have hl : ll = css.length := len_sl9 h1.fst
  have hlT := h1.own.len.1
  have hsum := h1.sum
  have hbg : ∀ x ∈ bl, W.heap.size ≤ x := fun x hx => (h1.top x (by rw [h1.cl x hx]; omega)).1
  have hbk : BookSt wr W.heap.size bk (.slice none 0 0) (.slice none 0 0) 0 [] := ⟨hB, ⟨rfl, .inl ⟨rfl, rfl⟩⟩, ⟨rfl, .inl ⟨rfl, rfl⟩⟩, (fun j x hj => by simp at hj), List.nodup_nil, hg⟩
  have key : ∀ gt, (la = some ⟨gt, 0, none⟩ ∨ T = []) → OwL wr gt 0 T bl → (T ≠ [] → gt < wr.heap.size) → Calls Try.prog 10 #[ptr bk 0, .slice la ll lc] wr fun e w' => e = .returned (.tuple #[]) ∧ BoP W w' bk := by
    intro gt e1 e2 e3
    refine (take_any wr W.heap.size bk gt ll lc la _ _ 0 [] T bl hbk e1 (by omega) e2 e3 h1.nd (fun x hx e => by simp at e) (fun t e => (h1.sm t e).2) (by simp; omega) (by omega)).mono ?_
    rintro e w8 ⟨rfl, vL', vN', s', zs, hs', hB', hsub, hc, oL, oN⟩
    have hzl := hsub.length_le
    have hbn := OwL.blen T e2
    rw [List.length_map] at hzl
    refine ⟨rfl, below_chg9 h1.low hc (fun x e hx => ?_), vL', vN', s', [] ++ zs, hB', by simp; omega, fun x hx => hbg _ (hsub.subset (List.mem_map_of_mem (by simpa using hx)))⟩
    rcases e with rfl | e | e | e
    · exact hg
    · cases e
    · cases e
    · exact hbg x e
  rcases h1.fst.2 with ⟨e, h0⟩ | ⟨g, cap, cur, e, hg', hh, hsz⟩
  · have hT : T = [] := List.eq_nil_of_length_eq_zero (by rw [← hlT]; exact h0)
    refine key 0 (.inr hT) ?_ (fun e => absurd hT e)
    have hbl : bl = [] := by
      have := h1.own
      rw [hT] at this
      cases css with
      | nil => exact this
      | cons x y => exact this.elim
    rw [hT, hbl]
    unfold OwL
    rfl
  · cases e
    refine key g (.inl rfl) ?_ (fun _ => (Array.getElem?_eq_some_iff.1 hh).1)
    refine h1.own.row (o := 0) (fun j v hv => ?_)
    have := World.ownsRow.cells h1.fst (g := g) rfl j v hv
    rw [Addr.add_mid] at this; exact this
theorem whole_bo {w : World} (h : BoP W w bk) : Calls Try.prog 12 #[ptr bk 0] w fun e w' => e = .returned (.bool true) ∧ Below W.heap.size W w' := by
  obtain ⟨h0, vL, vN, s, tk, h1, h2, h3⟩ := h
  refine (whole_any w W.heap.size bk vL vN s tk h1 h2).mono ?_
  rintro e w' ⟨rfl, hc⟩
  refine ⟨rfl, below_chg9 h0 hc (fun x e hx => ?_)⟩
  rcases e with e | e
  · exact (owns_lt h1.row x e).1
  · obtain ⟨y, hy, rfl⟩ := List.mem_map.1 e
    exact h3 y hy
end
end Go.Proofs.Ytiajoppbgebnpaa
