/- TreeFresh: lists written over, grown, read again; what a round adds by the worlds it goes through. -/
import Derived.Test.YtgopolelpckjcaaFrQ9
namespace Go.Proofs.Ytgopolelpckjcaa
open Go.RowKit Go.Sort
set_option linter.unusedVariables false

section
def putA (w : World) (g k : Nat) (q : Int) : World := w.setCells g (k * 4) [.int .i64 q, .int .i64 0, .int .i64 0, .int .i64 0]
def ThA (w : World) (g k : Nat) : Prop := w.there g (k * 4) 4
theorem area_size : (Try.prog.info? 47).map (·.size) = some 4 := by kernel_rfl
section
variable {ops : Array Oper} {rest : List Oper} {o : Oper} {a : Act} {w : World} {Q : Exit → Act → World → Prop} {base g k cap X : Nat} {xs : List Value} {x : Ar}
theorem wpList_putA {q : Int} (hgd : o.guard = none) (y z : Operand) (ho : o.op = .store 47 y z) (hy : a.eval y = .pointer (some ⟨g, k * 4, none⟩)) (hz : a.eval z = .agg #[.int .i64 q, .int .i64 0, .int .i64 0, .int .i64 0]) (ht : ThA w g k)
    (h : wpList Try.prog ops Q rest (a.put o.dst undef) (putA w g k q)) : wpList Try.prog ops Q (o :: rest) a w :=
  wpList_store_mid hgd 47 y z ho g (k * 4) #[.int .i64 q, .int .i64 0, .int .i64 0, .int .i64 0] hy hz ht area_size (by simp [Value.oneCell']) h
theorem wpList_fitA (hg : o.guard = none) (s y : Operand) (hop : o.op = Op.call { callee := Callee.builtin Builtin.append, args := #[s, y], argTypes := #[41, 41] })
    (hs : a.eval s = .slice (some ⟨g, 0, none⟩) k cap) (hx : a.eval y = .slice (some ⟨X, 0, none⟩) 1 1) (hown : w.ownsRow base 47 4 (.slice (some ⟨g, 0, none⟩) k cap) k xs) (hc : w.rangeAt X 0 (arC x)) (hlt : k < cap)
    (hK : ∀ w', w'.ownsRow base 47 4 (.slice (some ⟨g, 0, none⟩) (k + 1) cap) (k + 1) (xs ++ arC x) → w.grownBy w' (some g) → wpList Try.prog ops Q rest (a.put o.dst (.slice (some ⟨g, 0, none⟩) (k + 1) cap)) w') : wpList Try.prog ops Q (o :: rest) a w := by
  obtain ⟨i0, hi, hz0, hz1, hz2⟩ := info_parts info_area
  exact wpList_append_fits w hg s y 41 hop base 47 i0 4 Try.underlying41 hi hz1 g k cap xs hs hown ⟨X, 0, none⟩ 1 1 (arC x) hx rfl (fun j u hj => by rw [Addr.add_mid, Nat.zero_add]; have := hc j u hj; rwa [Nat.zero_add] at this) (fun u hu => by simp at hu; rcases hu with rfl | rfl | rfl | rfl <;> rfl) hlt hK
end
/-- The list's own block, whatever it holds. -/
def ShA (w : World) (a : Option Addr) (cap : Nat) : Prop := ∀ g, a = some ⟨g, 0, none⟩ → ∃ cur, w.heap[g]? = some (.cells cur 47 (0, 0)) ∧ cur.size = cap * 4
def LsA (a : Option Addr) (l c D E : Nat) : Prop := (a = none ∧ l = 0 ∧ c = 0) ∨ ∃ g, a = some ⟨g, 0, none⟩ ∧ (D ≤ g ∧ g < E) ∧ l ≤ c ∧ c ≤ maxLen
theorem rowA_shape {w : World} {B D E : Nat} {a : Option Addr} {l c : Nat} {M : List Ar} (h : RowA w B (.slice a l c) M) (hr : ∀ x, (Value.slice a l c).ownBlock = some x → D ≤ x ∧ x < E) : LsA a l c D E ∧ ShA w a c ∧ l = M.length := by
  rcases h.2 with ⟨e, h0⟩ | ⟨g, cap, cur, e, _, hg, hl, hm, hz, _⟩
  · cases e
    exact ⟨.inl ⟨rfl, rfl, rfl⟩, (fun g e => by cases e), h0.symm⟩
  · cases e
    exact ⟨.inr ⟨g, rfl, hr g rfl, hl, hm⟩, (fun g' e => by cases e; exact ⟨cur, hg, hz⟩), rfl⟩
theorem ShA.chg {w w' : World} {a : Option Addr} {c : Nat} {m : Nat → Prop} (h : ShA w a c) (hc : Chg m w w') (hm : ∀ g, a = some ⟨g, 0, none⟩ → ¬ m g) : ShA w' a c := fun g e => by
  obtain ⟨cur, h1, h2⟩ := h g e
  exact ⟨cur, (hc.block g (Array.getElem?_eq_some_iff.1 h1).1 (hm g e)).trans h1, h2⟩
theorem ShA.put {w : World} {g c k : Nat} {q : Int} (h : ShA w (some ⟨g, 0, none⟩) c) : ShA (putA w g k q) (some ⟨g, 0, none⟩) c := fun g' e => by
  cases e
  obtain ⟨cur, h1, h2⟩ := h g rfl
  obtain ⟨cs', h3, h4⟩ := row_setCells g 47 [.int .i64 q, .int .i64 0, .int .i64 0, .int .i64 0] (k * 4) w cur h1
  exact ⟨cs', h3, by rw [h4]; exact h2⟩
theorem ShA.th {w : World} {g c k : Nat} (h : ShA w (some ⟨g, 0, none⟩) c) (hk : k < c) : ThA w g k := by
  obtain ⟨cur, h1, h2⟩ := h g rfl
  exact there_of_row h1 (by rw [h2]; omega)
theorem putA_chg (w : World) (g k : Nat) (q : Int) : Chg (· = g) w (putA w g k q) := chg_setCells (m := (· = g)) rfl _ _ _
theorem below_chg {s : Nat} {v w w' : World} {m : Nat → Prop} (h : Below s v w) (hs : s ≤ w.heap.size) (hc : Chg m w w') (hm : ∀ x, m x → s ≤ x) : Below s v w' :=
  ⟨hc.os.trans h.os, hc.tape.trans h.tape, hc.output.trans h.output, Nat.le_trans h.size hc.size, fun x hx => (hc.block x (by omega) (fun e => by have := hm x e; omega)).trans (h.block x hx)⟩
theorem ow_tree {w : World} {v : Value} {t : Ex} {bs : List Nat} (h : Ow w v t bs) (hl : ∀ x ∈ bs, x < w.heap.size) (hs : SmE t) : Tree w v t := h.in' _ hl hs
end
section
section
variable {w : World} {ops : Array Oper} {rest : List Oper} {o : Oper} {a : Act} {Q : Exit → Act → World → Prop} {B X : Nat} {v : Value} {css : List (Array Value)} {n n' : Nd} {sa sb : Option Addr} {sl sc sl' sc' : Nat}
theorem wpList_appX2 (hg : o.guard = none) (s y : Operand) (hop : o.op = Op.call { callee := Callee.builtin Builtin.append, args := #[s, y], argTypes := #[27, 27] })
    (hs : a.eval s = v) (hx : a.eval y = .slice (some ⟨X, 0, none⟩) 2 2) (hown : RowX w B v css) (hc : w.rangeAt X 0 ((exC n (.slice sa sl sc)).toList ++ (exC n' (.slice sb sl' sc')).toList)) (hl : css.length < 1000000) (hB : B ≤ w.heap.size)
    (hK : ∀ v' w', RowX w' B v' (css ++ [exC n (.slice sa sl sc), exC n' (.slice sb sl' sc')]) → w.grownBy w' v.ownBlock → (v'.ownBlock = v.ownBlock ∨ v'.ownBlock = some w.heap.size) → wpList Try.prog ops Q rest (a.put o.dst v') w') : wpList Try.prog ops Q (o :: rest) a w := by
  obtain ⟨i0, hi, hz0, hz1, hz2⟩ := info_parts info_ex
  refine wpList_append_own_at (P := Try.prog) w hg s y 27 hop B 29 i0 _ 14 120 Try.underlying27 hi hz0 hz1 hz2 rfl (by decide) v css.length (flX css) hs hown
    ⟨X, 0, none⟩ 2 2 ((exC n (.slice sa sl sc)).toList ++ (exC n' (.slice sb sl' sc')).toList) hx (by rw [List.length_append, exC_len, exC_len]) (fun j u hj => by rw [Addr.add_mid, Nat.zero_add]; have := hc j u hj; rwa [Nat.zero_add] at this) (fun u hu => ?_) (by unfold maxLen; omega) (by omega) hB ?_
  · rcases List.mem_append.1 hu with hu | hu
    · exact (Array.all_eq_true_iff_forall_mem.1 (exC_one n sa sl sc)) u (by simpa using hu)
    · exact (Array.all_eq_true_iff_forall_mem.1 (exC_one n' sb sl' sc')) u (by simpa using hu)
  · intro v' w' h1 h2 _ h4
    refine hK v' w' ?_ h2 h4
    unfold RowX
    rw [List.length_append]
    simpa [flX] using h1
theorem info_sl : (Try.prog.info? 41).map (fun i => (i.zero, i.size, i.bytes)) = some (some (.slice none 0 0), 1, 24) := by kernel_rfl
theorem wpList_appS9 {ls : List Value} {sv : Value} (hg : o.guard = none) (s y : Operand) (hop : o.op = Op.call { callee := Callee.builtin Builtin.append, args := #[s, y], argTypes := #[34, 34] })
    (hs : a.eval s = v) (hx : a.eval y = .slice (some ⟨X, 0, none⟩) 1 1) (hown : w.ownsRow B 41 1 v ls.length ls) (hc : w.cell? ⟨X, 0, none⟩ = some sv) (h1c : sv.oneCell' = true) (hl : ls.length < 1000000) (hB : B ≤ w.heap.size)
    (hK : ∀ v' w', w'.ownsRow B 41 1 v' (ls ++ [sv]).length (ls ++ [sv]) → w.grownBy w' v.ownBlock → (v'.ownBlock = v.ownBlock ∨ v'.ownBlock = some w.heap.size) → wpList Try.prog ops Q rest (a.put o.dst v') w') : wpList Try.prog ops Q (o :: rest) a w := by
  obtain ⟨i0, hi, hz0, hz1, hz2⟩ := info_parts info_sl
  refine wpList_append_own_at (P := Try.prog) w hg s y 34 hop B 41 i0 _ 1 24 Try.underlying34 hi hz0 hz1 hz2 rfl (by decide) v ls.length ls hs hown
    ⟨X, 0, none⟩ 1 1 [sv] hx rfl (fun j u hj => by match j, hj with | 0, hj => (simp at hj; subst hj; simpa [Addr.add] using hc)) (fun u hu => by simp at hu; subst hu; exact h1c) (by unfold maxLen; omega) (by omega) hB ?_
  intro v' w' h1 h2 _ h4
  exact hK v' w' (by rw [List.length_append]; exact h1) h2 h4
end
/-- What a round has made when the laid tree is spoilt: y, m and z. -/
structure Mc (v0 w : World) (C D E F G H : Nat) (n : Nd) (ks : List Ex) (M : List Ar) (sy sz vm : Value) (bsY bsZ : List Nat) (yB zB : Nat) : Prop where
  low : Below v0.heap.size v0 w
  ord : v0.heap.size ≤ C ∧ C ≤ D ∧ D ≤ E ∧ E ≤ F ∧ F ≤ G ∧ G ≤ H ∧ H ≤ w.heap.size
  y : Ow w (exV n sy) (.mk n ks) bsY
  yn : bsY.Nodup
  yr : ∀ x ∈ bsY, C ≤ x ∧ x < D
  yb : Blk w yB (exC n sy) 29
  ybr : C ≤ yB ∧ yB < D
  m : RowA w E vm M
  mr : ∀ x, vm.ownBlock = some x → E ≤ x ∧ x < F
  z : Ow w (exV n sz) (.mk n ks) bsZ
  zn : bsZ.Nodup
  zr : ∀ x ∈ bsZ, G ≤ x ∧ x < H
  zb : Blk w zB (exC n sz) 29
  zbr : G ≤ zB ∧ zB < H
variable {v0 w w' : World} {A B C D E F G H : Nat} {n : Nd} {ks : List Ex} {M : List Ar} {st sy sz vm : Value} {bsT bsY bsZ : List Nat} {tB yB zB : Nat}
theorem mc_start {wF wG : World} (L : Lc wF A B C D E F n ks M st sy vm bsT bsY tB yB) (hA : v0.heap.size ≤ A) (g : Below v0.heap.size v0 wF) (hZ : New wF wG (exV n sz) (.mk n ks) bsZ) (hb : Below wF.heap.size wF wG) :
    Mc v0 (wG.alloc (exO n sz)) C D E F wF.heap.size (wG.heap.size + 1) n ks M sy sz vm bsY bsZ yB wG.heap.size := by
  obtain ⟨o1, o2, o3, o4, o5, o6⟩ := L.ord
  have s1 := hb.size
  have z1 : (wG.alloc (exO n sz)).heap.size = wG.heap.size + 1 := by simp
  have k : ∀ x, x < wF.heap.size → (wG.alloc (exO n sz)).heap[x]? = wF.heap[x]? := fun x hx => (Below.heap_alloc _ _ x (by omega)).trans (hb.block x hx)
  have k' : ∀ x, x < wG.heap.size → (wG.alloc (exO n sz)).heap[x]? = wG.heap[x]? := fun x hx => Below.heap_alloc _ _ x hx
  exact ⟨step (next g hb) _, ⟨by omega, by omega, by omega, by omega, by omega, by omega, by omega⟩, L.y.move _ (fun x hx => k x (by have := L.yr x hx; omega)), L.yn, L.yr, (k yB (by have := L.ybr; omega)).trans L.yb, L.ybr, owns_keep L.m (fun x hx => k x (by have := L.mr x hx; omega)), L.mr,
    hZ.ow.move _ (fun x hx => k' x (hZ.at' x hx).2), hZ.nd, fun x hx => by have := hZ.at' x hx; omega, Blk.new wG _ _, ⟨by omega, by omega⟩⟩
theorem Mc.chg (h : Mc v0 w C D E F G H n ks M sy sz vm bsY bsZ yB zB) {m : Nat → Prop} (hc : Chg m w w') (hm : ∀ x, m x → v0.heap.size ≤ x ∧ x < C) : Mc v0 w' C D E F G H n ks M sy sz vm bsY bsZ yB zB := by
  obtain ⟨o1, o2, o3, o4, o5, o6, o7⟩ := h.ord
  have hk : ∀ x, x < w.heap.size → C ≤ x → w'.heap[x]? = w.heap[x]? := fun x hx hx' => hc.block x hx (fun e => by have := hm x e; omega)
  exact ⟨below_chg h.low (by omega) hc (fun x e => (hm x e).1), ⟨o1, o2, o3, o4, o5, o6, Nat.le_trans o7 hc.size⟩, h.y.move _ (fun x hx => hk x (by have := h.yr x hx; omega) (by have := h.yr x hx; omega)), h.yn, h.yr, (hk yB (by have := h.ybr; omega) (by have := h.ybr; omega)).trans h.yb, h.ybr,
    owns_keep h.m (fun x hx => hk x (by have := h.mr x hx; omega) (by have := h.mr x hx; omega)), h.mr, h.z.move _ (fun x hx => hk x (by have := h.zr x hx; omega) (by have := h.zr x hx; omega)), h.zn, h.zr, (hk zB (by have := h.zbr; omega) (by have := h.zbr; omega)).trans h.zb, h.zbr⟩
theorem Mc.step (h : Mc v0 w C D E F G H n ks M sy sz vm bsY bsZ yB zB) (hb : Below w.heap.size w w') : Mc v0 w' C D E F G H n ks M sy sz vm bsY bsZ yB zB := h.chg (m := fun _ => False) ⟨hb.os, hb.tape, hb.output, hb.size, fun x hx _ => hb.block x hx⟩ (fun x hx => hx.elim)
theorem Mc.ytree (h : Mc v0 w C D E F G H n ks M sy sz vm bsY bsZ yB zB) (hs : SmE (.mk n ks)) : Tree w (exV n sy) (.mk n ks) := h.y.in' _ (fun x hx => by have := h.yr x hx; have := h.ord; omega) hs
theorem Mc.ztree (h : Mc v0 w C D E F G H n ks M sy sz vm bsY bsZ yB zB) (hs : SmE (.mk n ks)) : Tree w (exV n sz) (.mk n ks) := h.z.in' _ (fun x hx => by have := h.zr x hx; have := h.ord; omega) hs
/-- What was written since the round began has one of the colours below q. -/
structure Kp (c : Nat → Nat) (q : Nat) (v0 u : World) : Prop where
  os : u.os = v0.os
  tape : u.tape = v0.tape
  output : u.output = v0.output
  size : v0.heap.size ≤ u.heap.size
  at' : ∀ x, x < v0.heap.size → (c x = 0 ∨ q < c x) → u.heap[x]? = v0.heap[x]?
theorem Kp.start {c : Nat → Nat} {u : World} (h : Below v0.heap.size v0 u) : Kp c 0 v0 u := ⟨h.os, h.tape, h.output, h.size, fun x hx _ => h.block x hx⟩
theorem Kp.below {c : Nat → Nat} {q : Nat} {u u' : World} (h : Kp c q v0 u) (hb : Below u.heap.size u u') : Kp c q v0 u' := ⟨hb.os.trans h.os, hb.tape.trans h.tape, hb.output.trans h.output, Nat.le_trans h.size hb.size, fun x hx hc => (hb.block x (Nat.lt_of_lt_of_le hx h.size)).trans (h.at' x hx hc)⟩
theorem Kp.grown {c : Nat → Nat} {q : Nat} {u u' : World} {v : Value} (h : Kp c q v0 u) (hg : u.grownBy u' v.ownBlock) (hv : Col c (q + 1) v) : Kp c (q + 1) v0 u' := by
  refine ⟨hg.os.trans h.os, hg.tape.trans h.tape, hg.output.trans h.output, Nat.le_trans h.size hg.size, fun x hx hc => ?_⟩
  refine (hg.block x (Nat.lt_of_lt_of_le hx h.size) (fun e => ?_)).trans (h.at' x hx (by omega))
  have := hv x e.symm
  omega
theorem Kp.low {c : Nat → Nat} {q : Nat} {W u : World} (h : Kp c q v0 u) (hl : Below W.heap.size W v0) (ht : ∀ x, c x ≠ 0 → W.heap.size ≤ x) : Below W.heap.size W u :=
  ⟨h.os.trans hl.os, h.tape.trans hl.tape, h.output.trans hl.output, Nat.le_trans hl.size h.size, fun x hx => (h.at' x (Nat.lt_of_lt_of_le hx hl.size) (by by_cases e : c x = 0; exact .inl e; have := ht x e; omega)).trans (hl.block x hx)⟩
theorem Kp.row {c : Nat → Nat} {q q' B : Nat} {e : TypeId} {z k : Nat} {u : World} {v : Value} {xs : List Value} (h : Kp c q v0 u) (hr : v0.ownsRow B e z v k xs) (hv : Col c q' v) (hq : q < q') : u.ownsRow B e z v k xs :=
  owns_keep hr (fun x hx => h.at' x (owns_lt hr x hx).2 (by rw [hv x hx]; exact .inr hq))
/-- What is grown at a row of the round's beginning leaves what is newer. -/
theorem grown_new {u u' : World} {v : Value} (hg : u.grownBy u' v.ownBlock) (hv : ∀ x, v.ownBlock = some x → x < v0.heap.size) : ∀ x, v0.heap.size ≤ x → x < u.heap.size → u'.heap[x]? = u.heap[x]? := fun x h1 h2 => hg.block x h2 (fun e => by have := hv x e.symm; omega)
/-- A grown row stays while another is grown. -/
theorem grown_row {c : Nat → Nat} {q q' B : Nat} {e : TypeId} {z k : Nat} {u u' ub : World} {v v' vv : Value} {xs : List Value} (hr : u.ownsRow B e z v' k xs) (ho : v'.ownBlock = v.ownBlock ∨ v'.ownBlock = some ub.heap.size) (hub : v0.heap.size ≤ ub.heap.size) (hv : Col c q v)
    (hg : u.grownBy u' vv.ownBlock) (hvv : Col c q' vv) (hne : q ≠ q') (hl : ∀ x, vv.ownBlock = some x → x < v0.heap.size) : u'.ownsRow B e z v' k xs :=
  owns_keep hr (fun x hx => hg.block x (owns_lt hr x hx).2 (fun eq => by
    have h1 := hvv x eq.symm
    rcases ho with e | e
    · have := hv x (by rw [← e]; exact hx); omega
    · rw [e] at hx; cases hx; have := hl _ eq.symm; omega))
theorem owns_below {B : Nat} {e : TypeId} {z k : Nat} {u u' : World} {v : Value} {xs : List Value} (hr : u.ownsRow B e z v k xs) (hb : Below u.heap.size u u') : u'.ownsRow B e z v k xs := owns_keep hr (fun x hx => hb.block x (owns_lt hr x hx).2)
theorem FrSt.four {W v0 u0 u1 u2 u3 u4 u4' u5 u6 u7 : World} {c : Nat → Nat} {v3 v4 v5 v6 v3' v4' v5' v6' vw : Value} {kc wc : List (Array Value)} {ls sd : List Value} {T : List Ex} {L : List (List Ar)} {ct : Array Value} (h : FrSt W v0 c v3 v4 v5 v6 kc wc ls sd T L)
    (M0 : Mc v0 u0 C D E F G H n ks M sy sz vm bsY bsZ yB zB)
    (r3 : RowX u1 W.heap.size v3' (kc ++ [exC n sy, exC n sz])) (g3 : u0.grownBy u1 v3.ownBlock) (o3 : v3'.ownBlock = v3.ownBlock ∨ v3'.ownBlock = some u0.heap.size) (b2 : Below u1.heap.size u1 u2)
    (r4 : RowX u3 W.heap.size v4' (wc ++ [ct, ct])) (g4 : u2.grownBy u3 v4.ownBlock) (o4 : v4'.ownBlock = v4.ownBlock ∨ v4'.ownBlock = some u2.heap.size)
    (b4 : Below u3.heap.size u3 u4) (hw : RowA u4 u3.heap.size vw M) (b4' : Below u4.heap.size u4 u4')
    (r5 : u5.ownsRow W.heap.size 41 1 v5' (ls ++ [vm]).length (ls ++ [vm])) (g5 : u4'.grownBy u5 v5.ownBlock) (o5 : v5'.ownBlock = v5.ownBlock ∨ v5'.ownBlock = some u4'.heap.size) (b6 : Below u5.heap.size u5 u6)
    (r6 : u7.ownsRow W.heap.size 41 1 v6' (sd ++ [vw]).length (sd ++ [vw])) (g6 : u6.grownBy u7 v6.ownBlock) (o6 : v6'.ownBlock = v6.ownBlock ∨ v6'.ownBlock = some u6.heap.size)
    (hn : nodesE (.mk n ks) ≤ 512) (hs : SmE (.mk n ks)) (ht : Tree W (.agg ct) (.mk n ks)) (lm : M.length ≤ 512) :
    ∃ c', FrSt W u7 c' v3' v4' v5' v6' (kc ++ [exC n sy, exC n sz]) (wc ++ [ct, ct]) (ls ++ [vm]) (sd ++ [vw]) (T ++ [.mk n ks, .mk n ks]) (L ++ [M]) := by
  obtain ⟨q1, q2, q3, q4, q5, q6, q7⟩ := M0.ord
  have hW := h.low.size
  have k0 : Kp c 0 v0 u0 := Kp.start M0.low
  have k1 := k0.grown g3 h.kq
  have k2 := k1.below b2
  have k3 := k2.grown g4 h.wq
  have k4 := (k3.below b4).below b4'
  have k5 := k4.grown g5 h.lq
  have k6 := k5.below b6
  have k7 := k6.grown g6 h.sq
  have z0 := k0.size
  have z1 := g3.size
  have z2 := b2.size
  have z3 := g4.size
  have z4 := b4.size
  have z4' := b4'.size
  have z5 := g5.size
  have z6 := b6.size
  have z7 := g6.size
  have l3 : ∀ x, v3.ownBlock = some x → x < v0.heap.size := fun x hx => (owns_lt h.k x hx).2
  have l4 : ∀ x, v4.ownBlock = some x → x < v0.heap.size := fun x hx => (owns_lt h.w x hx).2
  have l5 : ∀ x, v5.ownBlock = some x → x < v0.heap.size := fun x hx => (owns_lt h.l x hx).2
  have l6 : ∀ x, v6.ownBlock = some x → x < v0.heap.size := fun x hx => (owns_lt h.s x hx).2
  have e4 : ∀ x, v0.heap.size ≤ x → x < u4.heap.size → u7.heap[x]? = u4.heap[x]? := fun x h1 h2 =>
    (grown_new g6 l6 x h1 (by omega)).trans ((b6.block x (by omega)).trans ((grown_new g5 l5 x h1 (by omega)).trans (b4'.block x (by omega))))
  have e0 : ∀ x, v0.heap.size ≤ x → x < u0.heap.size → u7.heap[x]? = u0.heap[x]? := fun x h1 h2 =>
    (e4 x h1 (by omega)).trans ((b4.block x (by omega)).trans ((grown_new g4 l4 x h1 (by omega)).trans ((b2.block x (by omega)).trans (grown_new g3 l3 x h1 h2))))
  have R3 : RowX u7 W.heap.size v3' (kc ++ [exC n sy, exC n sz]) := by
    have a1 : RowX u2 W.heap.size v3' (kc ++ [exC n sy, exC n sz]) := owns_below r3 b2
    have a2 : RowX u3 W.heap.size v3' (kc ++ [exC n sy, exC n sz]) := grown_row a1 o3 z0 h.kq g4 h.wq (by omega) l4
    have a3 : RowX u4' W.heap.size v3' (kc ++ [exC n sy, exC n sz]) := owns_below (owns_below a2 b4) b4'
    have a4 : RowX u5 W.heap.size v3' (kc ++ [exC n sy, exC n sz]) := grown_row a3 o3 z0 h.kq g5 h.lq (by omega) l5
    exact grown_row (owns_below a4 b6) o3 z0 h.kq g6 h.sq (by omega) l6
  have R4 : RowX u7 W.heap.size v4' (wc ++ [ct, ct]) := by
    have a3 : RowX u4' W.heap.size v4' (wc ++ [ct, ct]) := owns_below (owns_below r4 b4) b4'
    have a4 : RowX u5 W.heap.size v4' (wc ++ [ct, ct]) := grown_row a3 o4 k2.size h.wq g5 h.lq (by omega) l5
    exact grown_row (owns_below a4 b6) o4 k2.size h.wq g6 h.sq (by omega) l6
  have R5 : u7.ownsRow W.heap.size 41 1 v5' (ls ++ [vm]).length (ls ++ [vm]) := grown_row (owns_below r5 b6) o5 k4.size h.lq g6 h.sq (by omega) l6
  refine ⟨_, h.add (p0 := C) (p1 := E) (p2 := G) (p3 := u0.heap.size) (p4 := u1.heap.size) (p5 := u3.heap.size) (p6 := u4.heap.size) (p7 := u6.heap.size) (p8 := u7.heap.size) ⟨q1, by omega, by omega, by omega, z1, by omega, by omega, by omega, by omega, Nat.le_refl _⟩
    (k7.low h.low (fun x hx => (h.top x hx).1)) (fun x hx => k7.at' x (h.top x (by omega)).2 (by omega))
    R3 (o3.imp id (fun e => ⟨_, e, Nat.le_refl _, (owns_lt r3 _ e).2⟩)) R4 (o4.imp id (fun e => ⟨_, e, z2, (owns_lt r4 _ e).2⟩)) R5 (o5.imp id (fun e => ⟨_, e, z4', by have := (owns_lt r5 _ e).2; omega⟩)) r6 (o6.imp id (fun e => ⟨_, e, Nat.le_refl _, (owns_lt r6 _ e).2⟩))
    (M0.y.move _ (fun x hx => e0 x (by have := M0.yr x hx; omega) (by have := M0.yr x hx; omega))) M0.yn (fun x hx => by have := M0.yr x hx; omega) (M0.z.move _ (fun x hx => e0 x (by have := M0.zr x hx; omega) (by have := M0.zr x hx; omega))) M0.zn (fun x hx => by have := M0.zr x hx; omega) hn hs ht
    (owns_base (owns_keep M0.m (fun x hx => e0 x (by have := M0.mr x hx; omega) (by have := M0.mr x hx; omega))) (by omega)) (fun x hx => by have := M0.mr x hx; omega) lm
    (owns_base (owns_keep hw (fun x hx => e4 x (by have := owns_lt hw x hx; omega) (owns_lt hw x hx).2)) (by omega)) (fun x hx => owns_lt hw x hx)⟩
/-- What the walk asks of the rows, ahead of each append. -/
theorem FrSt.row3 {W v0 u0 : World} {c : Nat → Nat} {v3 v4 v5 v6 : Value} {kc wc : List (Array Value)} {ls sd : List Value} {T : List Ex} {L : List (List Ar)} (h : FrSt W v0 c v3 v4 v5 v6 kc wc ls sd T L) (b : Below v0.heap.size v0 u0) : RowX u0 W.heap.size v3 kc := owns_below h.k b
theorem FrSt.row4 {W v0 u0 u1 u2 : World} {c : Nat → Nat} {v3 v4 v5 v6 : Value} {kc wc : List (Array Value)} {ls sd : List Value} {T : List Ex} {L : List (List Ar)} (h : FrSt W v0 c v3 v4 v5 v6 kc wc ls sd T L) (b : Below v0.heap.size v0 u0) (g3 : u0.grownBy u1 v3.ownBlock) (b2 : Below u1.heap.size u1 u2) : RowX u2 W.heap.size v4 wc ∧ Below W.heap.size W u2 ∧ Kp c 1 v0 u2 := by
  have k := ((Kp.start (c := c) b).grown g3 h.kq).below b2
  exact ⟨k.row h.w h.wq (by omega), k.low h.low (fun x hx => (h.top x hx).1), k⟩
theorem FrSt.row5 {W v0 u2 u3 : World} {c : Nat → Nat} {v3 v4 v5 v6 : Value} {kc wc : List (Array Value)} {ls sd : List Value} {T : List Ex} {L : List (List Ar)} (h : FrSt W v0 c v3 v4 v5 v6 kc wc ls sd T L) (k2 : Kp c 1 v0 u2) (g4 : u2.grownBy u3 v4.ownBlock) : Below W.heap.size W u3 ∧ Kp c 2 v0 u3 := by
  have k := k2.grown g4 h.wq
  exact ⟨k.low h.low (fun x hx => (h.top x hx).1), k⟩
theorem FrSt.row5' {W v0 u4 : World} {c : Nat → Nat} {v3 v4 v5 v6 : Value} {kc wc : List (Array Value)} {ls sd : List Value} {T : List Ex} {L : List (List Ar)} (h : FrSt W v0 c v3 v4 v5 v6 kc wc ls sd T L) (k : Kp c 2 v0 u4) : u4.ownsRow W.heap.size 41 1 v5 ls.length ls ∧ W.heap.size ≤ u4.heap.size := ⟨k.row h.l h.lq (by omega), Nat.le_trans h.low.size k.size⟩
theorem FrSt.row6' {W v0 u6 : World} {c : Nat → Nat} {v3 v4 v5 v6 : Value} {kc wc : List (Array Value)} {ls sd : List Value} {T : List Ex} {L : List (List Ar)} (h : FrSt W v0 c v3 v4 v5 v6 kc wc ls sd T L) (k : Kp c 3 v0 u6) : u6.ownsRow W.heap.size 41 1 v6 sd.length sd ∧ W.heap.size ≤ u6.heap.size := ⟨k.row h.s h.sq (by omega), Nat.le_trans h.low.size k.size⟩
end
section
theorem flX_get (css : List (Array Value)) (h : ∀ cs ∈ css, cs.toList.length = 14) (j : Nat) (hj : j < css.length) (k : Nat) (hk : k < 14) : (flX css)[j * 14 + k]? = css[j].toList[k]? := by
  induction css generalizing j with
  | nil => exact absurd hj (Nat.not_lt_zero j)
  | cons x r ih =>
    have hx : flX (x :: r) = x.toList ++ flX r := rfl
    have hl := h x (List.mem_cons_self ..)
    rw [hx]
    cases j with
    | zero => rw [Nat.zero_mul, Nat.zero_add, List.getElem?_append_left (by omega)]; rfl
    | succ j =>
      rw [List.getElem?_append_right (by omega), show (j + 1) * 14 + k - x.toList.length = j * 14 + k by omega]
      rw [ih (fun cs hc => h cs (List.mem_cons_of_mem _ hc)) j (by simpa using hj)]
      rfl
theorem rowX_get {w : World} {B : Nat} {a : Option Addr} {l c : Nat} {css : List (Array Value)} (h : RowX w B (.slice a l c) css) (h14 : ∀ cs ∈ css, cs.toList.length = 14) {j : Nat} {cs : Array Value} (hj : css[j]? = some cs) : ∃ g, a = some ⟨g, 0, none⟩ ∧ w.rangeAt g (j * 14) cs.toList := by
  obtain ⟨hj', he⟩ := List.getElem?_eq_some_iff.1 hj
  rcases h.2 with ⟨e, h0⟩ | ⟨g, cap, cur, e, _, hr, hc, _, hz, ht⟩
  · omega
  · cases e
    refine ⟨g, rfl, fun k v hv => ?_⟩
    have hk : k < 14 := by have := (List.getElem?_eq_some_iff.1 hv).1; rwa [h14 cs (by rw [← he]; exact List.getElem_mem _)] at this
    rw [cell_of_row w g _ cur _ _ hr, ← Array.getElem?_toList]
    have h1 := flX_get css h14 j hj' k hk
    rw [he, hv, ← ht, List.getElem?_take] at h1
    split at h1
    · exact h1
    · cases h1
theorem rowX_len {w : World} {B : Nat} {a : Option Addr} {l c : Nat} {css : List (Array Value)} (h : RowX w B (.slice a l c) css) : l = css.length := by
  rcases h.2 with ⟨e, h0⟩ | ⟨g, cap, cur, e, _⟩
  · cases e; exact h0.symm
  · cases e; rfl
theorem rowS_len {w : World} {B : Nat} {e : TypeId} {z : Nat} {a : Option Addr} {l c k : Nat} {xs : List Value} (h : w.ownsRow B e z (.slice a l c) k xs) : l = k := by
  rcases h.2 with ⟨e, h0⟩ | ⟨g, cap, cur, e, _⟩
  · cases e; exact h0.symm
  · cases e; rfl
theorem rowS_get {w : World} {B : Nat} {e : TypeId} {a : Option Addr} {l c : Nat} {xs : List Value} (h : w.ownsRow B e 1 (.slice a l c) xs.length xs) {j : Nat} {v : Value} (hj : xs[j]? = some v) : ∃ g, a = some ⟨g, 0, none⟩ ∧ w.cell? ⟨g, j, none⟩ = some v := by
  rcases h.2 with ⟨e, h0⟩ | ⟨g, cap, cur, e, _, hr, hc, _, hz, ht⟩
  · have := (List.getElem?_eq_some_iff.1 hj).1; omega
  · cases e
    refine ⟨g, rfl, ?_⟩
    rw [cell_of_row w g _ cur _ _ hr, ← Array.getElem?_toList]
    rw [← ht, List.getElem?_take] at hj
    split at hj
    · exact hj
    · cases hj
variable {W wr w' : World} {c : Nat → Nat} {v3 v4 v5 v6 : Value} {kc wc : List (Array Value)} {ls sd : List Value} {T : List Ex} {L : List (List Ar)}
/-- What does not change at the end: how many there are, and that trees have their cells. -/
structure Ends (W : World) (kc wc : List (Array Value)) (ls sd : List Value) (T : List Ex) (L : List (List Ar)) : Prop where
  kl : kc.length = T.length
  wl : wc.length = T.length
  ll : ls.length = L.length
  sl : sd.length = L.length
  k14 : ∀ cs ∈ kc, cs.toList.length = 14
  w14 : ∀ cs ∈ wc, cs.toList.length = 14
theorem FrSt.ends (h : FrSt W wr c v3 v4 v5 v6 kc wc ls sd T L) : Ends W kc wc ls sd T L := by
  refine ⟨h.kl, h.wl, h.ll, h.sl, fun cs hc => ?_, fun cs hc => ?_⟩
  · obtain ⟨j, hj, e⟩ := List.getElem_of_mem hc
    obtain ⟨bs, ho, _⟩ := h.tr j _ cs (List.getElem?_eq_getElem (by rw [← h.kl]; exact hj)) (by rw [List.getElem?_eq_getElem hj, e])
    obtain ⟨a, l, cp, rfl⟩ := ho.cs
    exact exC_len _ _
  · obtain ⟨j, hj, e⟩ := List.getElem_of_mem hc
    have ho := h.we j _ cs (List.getElem?_eq_getElem (by rw [← h.wl]; exact hj)) (by rw [List.getElem?_eq_getElem hj, e])
    obtain ⟨a, l, cp, rfl⟩ := ho.cs
    exact exC_len _ _
/-- The j-th copy and the tree that it was made of. -/
theorem FrK.get {i : Nat} {a3 a4 : Option Addr} {l3 l4 c3 c4 : Nat} (h : FrK W wr c i (.slice a3 l3 c3) (.slice a4 l4 c4) v5 v6 kc wc ls sd T L) (E : Ends W kc wc ls sd T L) (hi : i < l3) :
    ∃ g3 g4 n ks ak lk ck aw lw cw bs, a3 = some ⟨g3, 0, none⟩ ∧ a4 = some ⟨g4, 0, none⟩ ∧ i < l4 ∧ l3 ≤ c3 ∧ l4 ≤ c4 ∧ wr.rangeAt g3 (i * 14) (exC n (.slice ak lk ck)).toList ∧ wr.rangeAt g4 (i * 14) (exC n (.slice aw lw cw)).toList ∧
      Ow wr (exV n (.slice ak lk ck)) (.mk n ks) bs ∧ bs.Nodup ∧ (∀ x ∈ bs, c x = 10 + i * 2) ∧ nodesE (.mk n ks) ≤ 512 ∧ SmE (.mk n ks) ∧ Tree W (exV n (.slice aw lw cw)) (.mk n ks) ∧ (∀ x ∈ bs, x < wr.heap.size) ∧ g3 < wr.heap.size ∧ g3 ∉ bs := by
  have e3 := rowX_len h.k
  have e4 := rowX_len h.w
  have hk := E.kl
  have hw := E.wl
  obtain ⟨t, ht⟩ : ∃ t, T[i]? = some t := ⟨_, List.getElem?_eq_getElem (by omega)⟩
  obtain ⟨ck', hck⟩ : ∃ t, kc[i]? = some t := ⟨_, List.getElem?_eq_getElem (by omega)⟩
  obtain ⟨cw', hcw⟩ : ∃ t, wc[i]? = some t := ⟨_, List.getElem?_eq_getElem (by omega)⟩
  obtain ⟨bs, ho, hn, hq, h5, hs⟩ := h.tr i t ck' (Nat.le_refl _) ht hck
  have hT := h.we i t cw' ht hcw
  obtain ⟨n, ks⟩ := t
  obtain ⟨ak, lk, ck, rfl⟩ := ho.cs
  obtain ⟨aw, lw, cw, rfl⟩ := hT.cs
  obtain ⟨g3, rfl, r3⟩ := rowX_get h.k E.k14 hck
  obtain ⟨g4, rfl, r4⟩ := rowX_get h.w E.w14 hcw
  have hc3 : l3 ≤ c3 := by
    rcases h.k.2 with ⟨e, _⟩ | ⟨g, cap, cur, e, _, _, h2, _⟩
    · cases e
    · cases e; exact h2
  have hc4 : l4 ≤ c4 := by
    rcases h.w.2 with ⟨e, _⟩ | ⟨g, cap, cur, e, _, _, h2, _⟩
    · cases e
    · cases e; exact h2
  exact ⟨g3, g4, n, ks, ak, lk, ck, aw, lw, cw, bs, rfl, rfl, by omega, hc3, hc4, r3, r4, ho, hn, hq, h5, hs, hT, fun x hx => (h.top x (by rw [hq x hx]; omega)).2, (owns_lt h.k g3 rfl).2, fun hx => by have := hq _ hx; have := h.kq g3 rfl; omega⟩
/-- The i-th list and what it should say. -/
theorem FrL.get {i : Nat} {a5 a6 : Option Addr} {l5 l6 c5 c6 : Nat} (h : FrL W wr c i (.slice a5 l5 c5) (.slice a6 l6 c6) ls sd L) (E : Ends W kc wc ls sd T L) (hi : i < l5) :
    ∃ g5 g6 M am lm cm aw lw cw, a5 = some ⟨g5, 0, none⟩ ∧ a6 = some ⟨g6, 0, none⟩ ∧ i < l6 ∧ l5 ≤ c5 ∧ l6 ≤ c6 ∧ wr.cell? ⟨g5, i, none⟩ = some (.slice am lm cm) ∧ wr.cell? ⟨g6, i, none⟩ = some (.slice aw lw cw) ∧
      RowA wr W.heap.size (.slice am lm cm) M ∧ Col c (11 + i * 2) (.slice am lm cm) ∧ M.length ≤ 512 ∧ RowA wr W.heap.size (.slice aw lw cw) M ∧ ls[i]? = some (.slice am lm cm) := by
  have e5 := rowS_len h.l
  have e6 := rowS_len h.s
  have hk := E.ll
  have hw := E.sl
  obtain ⟨M, hM⟩ : ∃ t, L[i]? = some t := ⟨_, List.getElem?_eq_getElem (by omega)⟩
  obtain ⟨vm, hvm⟩ : ∃ t, ls[i]? = some t := ⟨_, List.getElem?_eq_getElem (by omega)⟩
  obtain ⟨vw, hvw⟩ : ∃ t, sd[i]? = some t := ⟨_, List.getElem?_eq_getElem (by omega)⟩
  obtain ⟨h1, h2, h3⟩ := h.li i M vm (Nat.le_refl _) hM hvm
  obtain ⟨h4, _⟩ := h.sa i M vw hM hvw
  obtain ⟨am, lm, cm, rfl⟩ := owns_shape9 h1
  obtain ⟨aw, lw, cw, rfl⟩ := owns_shape9 h4
  obtain ⟨g5, rfl, r5⟩ := rowS_get h.l hvm
  obtain ⟨g6, rfl, r6⟩ := rowS_get h.s hvw
  have hc5 : l5 ≤ c5 := by
    rcases h.l.2 with ⟨e, _⟩ | ⟨g, cap, cur, e, _, _, h2, _⟩
    · cases e
    · cases e; exact h2
  have hc6 : l6 ≤ c6 := by
    rcases h.s.2 with ⟨e, _⟩ | ⟨g, cap, cur, e, _, _, h2, _⟩
    · cases e
    · cases e; exact h2
  exact ⟨g5, g6, M, am, lm, cm, aw, lw, cw, rfl, rfl, by omega, hc5, hc6, r5, r6, h1, h2, h3, h4, hvm⟩
theorem FrK.below {i : Nat} (h : FrK W wr c i v3 v4 v5 v6 kc wc ls sd T L) (hb : Below wr.heap.size wr w') : FrK W w' c i v3 v4 v5 v6 kc wc ls sd T L := h.chg (m := fun _ => False) ⟨hb.os, hb.tape, hb.output, hb.size, fun x hx _ => hb.block x hx⟩ (Nat.le_refl _) (fun x hx => hx.elim)
theorem FrL.below {i : Nat} (h : FrL W wr c i v5 v6 ls sd L) (hb : Below wr.heap.size wr w') : FrL W w' c i v5 v6 ls sd L := h.chg (m := fun _ => False) ⟨hb.os, hb.tape, hb.output, hb.size, fun x hx _ => hb.block x hx⟩ (Nat.le_refl _) (fun x hx => hx.elim)
theorem FrL.drop {i : Nat} (h : FrL W wr c i v5 v6 ls sd L) : FrL W wr c (i + 1) v5 v6 ls sd L := ⟨h.low, h.top, h.l, h.lq, h.s, h.sq, fun j M v hj => h.li j M v (by omega), h.sa⟩
/-- A place of the i-th list is written over. -/
theorem FrL.put {i g k : Nat} {q : Int} (h : FrL W wr c (i + 1) v5 v6 ls sd L) (hg : c g = 11 + i * 2) : FrL W (putA wr g k q) c (i + 1) v5 v6 ls sd L :=
  h.chg (putA_chg wr g k q) (Nat.le_refl _) (fun x hx _ => by subst hx; exact ⟨(h.top x (by rw [hg]; omega)).1, .inr ⟨i, by omega, hg⟩⟩)
theorem FrL.cellAt {i j g5 l5 c5 : Nat} {v : Value} (h : FrL W wr c i (.slice (some ⟨g5, 0, none⟩) l5 c5) v6 ls sd L) (hj : ls[j]? = some v) : wr.cell? ⟨g5, j, none⟩ = some v := by
  obtain ⟨g, e, hc⟩ := rowS_get h.l hj
  cases e; exact hc
theorem Lc.tlt {w : World} {A B C D E F : Nat} {n : Nd} {ks : List Ex} {M : List Ar} {st sy vm : Value} {bsT bsY : List Nat} {tB yB : Nat} (h : Lc w A B C D E F n ks M st sy vm bsT bsY tB yB) : ∀ x ∈ bsT, x < w.drew.heap.size := fun x hx => by
  have h1 := h.tr x hx
  have h2 := h.ord
  show x < w.heap.size
  omega
theorem Lc.tin {w : World} {v A B C D E F : Nat} {n : Nd} {ks : List Ex} {M : List Ar} {st sy vm : Value} {bsT bsY : List Nat} {tB yB : Nat} (h : Lc w A B C D E F n ks M st sy vm bsT bsY tB yB) (hv : v ≤ A) : ∀ x ∈ bsT, v ≤ x ∧ x < C := fun x hx => by
  have h1 := h.tr x hx
  have h2 := h.ord
  omega
theorem FrSt.lens {N : Nat} (h : FrSt W wr c v3 v4 v5 v6 kc wc ls sd T L) (hT : T.length = 2 * L.length ∧ L.length ≤ N) (hN : N ≤ 200) : kc.length < 1000000 ∧ wc.length < 1000000 ∧ ls.length < 1000000 ∧ sd.length < 1000000 := by
  have h3 := h.kl
  have h4 := h.wl
  have h5 := h.ll
  have h6 := h.sl
  omega
theorem size_up {a b d : Nat} (h1 : a ≤ b) (h2 : b ≤ d) : a ≤ d + 1 := by omega
theorem lens_more {N : Nat} {t : Ex} {M : List Ar} (hT : T.length = 2 * L.length ∧ L.length ≤ N) : (T ++ [t, t]).length = 2 * (L ++ [M]).length ∧ (L ++ [M]).length ≤ N + 1 := by
  simp
  omega
theorem FrSt.ends3 {a3 : Option Addr} {l3 c3 N : Nat} (h : FrSt W wr c (.slice a3 l3 c3) v4 v5 v6 kc wc ls sd T L) (hT : T.length = 2 * L.length ∧ L.length ≤ N) (hN : N ≤ 200) : l3 ≤ 400 := by
  have e3 := rowX_len h.k
  have h3 := h.kl
  omega
theorem FrSt.ends5 {a5 : Option Addr} {l5 c5 N : Nat} (h : FrSt W wr c v3 v4 (.slice a5 l5 c5) v6 kc wc ls sd T L) (hT : T.length = 2 * L.length ∧ L.length ≤ N) (hN : N ≤ 200) : l5 ≤ 200 := by
  have e3 := rowS_len h.l
  have h3 := h.ll
  omega
theorem lt_cast {a b : Nat} (h : a < b) : (a : Int) < (b : Int) := by omega
theorem nlt_cast {a b : Nat} (h : ¬ a < b) : ¬ (a : Int) < (b : Int) := by omega
theorem wrap_up {k l m : Nat} (h : k < l) (hm : l ≤ m) (h2 : m ≤ 1000000) : wrap64 ((k : Int) + 1) = (k : Int) + 1 := IntWalk.wrap64_in ((k : Int) + 1) ⟨by omega, by omega⟩
theorem size_alloc1 (w : World) (o : Obj) : (w.alloc o).heap.size = w.heap.size + 1 := by simp
theorem built2b (n n' : Nd) (s s' : Value) : Try.prog.builtSlice 29 2 [(0, exV n s), (1, exV n' s')] = some (exC n s ++ exC n' s') := by kernel_rfl
theorem two_cat (w : World) (n n' : Nd) (s s' : Value) : (w.alloc (.cells (exC n s ++ exC n' s') 29)).rangeAt w.heap.size 0 ((exC n s).toList ++ (exC n' s').toList) := by
  intro j v hv
  rw [cell_of_row _ _ _ _ _ _ (Blk.new w _ _), Nat.zero_add, ← Array.getElem?_toList, Array.toList_append]
  exact hv
theorem one_cat (w : World) (v : Value) (t : TypeId) : (w.alloc (.cells #[v] t)).cell? ⟨w.heap.size, 0, none⟩ = some v := by
  rw [cell_of_row _ _ _ _ _ _ (Blk.new w #[v] t)]; rfl
abbrev lit28 (n : Nd) (s : Value) : Array Value := #[.int .i64 n.kind, .int .i64 n.op, .int .i64 n.num, .string n.text, .int .i64 n.ref.row, .int .i64 n.ref.col, .bool n.ref.pr, .bool n.ref.pc, .int .i64 n.to.row, .int .i64 n.to.col, .bool n.to.pr, .bool n.to.pc, .int .i64 n.fn, s,
  .int .i64 n.kind, .int .i64 n.op, .int .i64 n.num, .string n.text, .int .i64 n.ref.row, .int .i64 n.ref.col, .bool n.ref.pr, .bool n.ref.pc, .int .i64 n.to.row, .int .i64 n.to.col, .bool n.to.pr, .bool n.to.pc, .int .i64 n.fn, s]
theorem lit28_eq (n : Nd) (s : Value) : lit28 n s = exC n s ++ exC n s := rfl
theorem two_lit (w : World) (n : Nd) (s : Value) : (w.alloc (.cells (lit28 n s) 29)).rangeAt w.heap.size 0 ((exC n s).toList ++ (exC n s).toList) := by
  rw [lit28_eq]; exact two_cat w n n s s
theorem step_appX2 {ops : Array Oper} {o : Oper} {a : Act} {w : World} {Kn : Act → World → Prop} {Q : Exit → Act → World → Prop} {E : Prop} {B X : Nat} {v : Value} {css : List (Array Value)} {n n' : Nd} {sa sb : Option Addr} {sl sc sl' sc' : Nat} (hgd : o.guard = none) (s y : Operand)
    (ho : o.op = .call { callee := .builtin .append, args := #[s, y], argTypes := #[27, 27] }) (hs : a.eval s = v) (hx : a.eval y = .slice (some ⟨X, 0, none⟩) 2 2) (hown : RowX w B v css) (hc : w.rangeAt X 0 ((exC n (.slice sa sl sc)).toList ++ (exC n' (.slice sb sl' sc')).toList)) (hl : css.length < 1000000) (hB : B ≤ w.heap.size)
    (h : ∀ v' w', RowX w' B v' (css ++ [exC n (.slice sa sl sc), exC n' (.slice sb sl' sc')]) → w.grownBy w' v.ownBlock → (v'.ownBlock = v.ownBlock ∨ v'.ownBlock = some w.heap.size) → Kn (a.put o.dst v') w') :
    if Region.wanted o (yielded ops a.tmps) = true then Oper.wp Try.prog o a w Kn Q else E := by
  have hw : Region.wanted o (yielded ops a.tmps) = true := by simp [Region.wanted, hgd]
  rw [if_pos hw]
  obtain ⟨i0, hi, hz0, hz1, hz2⟩ := info_parts info_ex
  obtain ⟨v', w', hr, h2, h3, _, h4⟩ := run_append_own_at (P := Try.prog) w B 27 o.type 29 i0 _ 14 120 Try.underlying27 hi hz0 hz1 hz2 rfl (by decide) v css.length (flX css) hown
    ⟨X, 0, none⟩ 2 2 ((exC n (.slice sa sl sc)).toList ++ (exC n' (.slice sb sl' sc')).toList) (by rw [List.length_append, exC_len, exC_len]) (fun j u hj => by rw [Addr.add_mid, Nat.zero_add]; have := hc j u hj; rwa [Nat.zero_add] at this) (fun u hu => by
      rcases List.mem_append.1 hu with hu | hu
      · exact (Array.all_eq_true_iff_forall_mem.1 (exC_one n sa sl sc)) u (by simpa using hu)
      · exact (Array.all_eq_true_iff_forall_mem.1 (exC_one n' sb sl' sc')) u (by simpa using hu)) (by unfold maxLen; omega) (by omega) hB
  unfold Oper.wp execOp
  simp only [ho, resolve, invoke, builtin, Sem.run_bind, Sem.run_pure, Result.andThen_ok, List.map_toArray, List.map_cons, List.map_nil, hs, hx, hr]
  exact h v' w' (by unfold RowX; rw [List.length_append]; simpa [flX] using h2) h3 h4
end
end Go.Proofs.Ytgopolelpckjcaa
