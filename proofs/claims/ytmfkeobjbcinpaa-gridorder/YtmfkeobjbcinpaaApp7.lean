/- Appending one place to a row of places; ranging over the places of a map; slices.AppendSeq, slices.Collect and slices.SortedFunc. Proved of the Go text. -/
import Derived.Test.YtmfkeobjbcinpaaKeys7
import Derived.Test.YtmfkeobjbcinpaaRange3
namespace Go.Proofs.Ytmfkeobjbcinpaa
open Go.RowKit Go.Shelf Go.Sort Go.Maps
set_option linter.unusedVariables false
attribute [local go_sem] Oper.semAt_some

theorem info_spot : (Try.prog.info? 35).map (fun i => (i.zero, i.size, i.bytes)) = some (some (.agg #[.int .i64 0, .int .i64 0]), 2, 16) := by kernel_rfl
/-- A row of places. -/
abbrev RowS (w : World) (B : Nat) (v : Value) (K : List Sp) : Prop := w.ownsRow B 35 2 v K.length (flatS K)
theorem RowS.nil (w : World) (B : Nat) : RowS w B (.slice none 0 0) [] := World.ownsRow_nil w B _ _
theorem row_low {w : World} {B B' e n m : Nat} {v : Value} {xs : List Value} (h : w.ownsRow B e n v m xs) (hB : B' ≤ B) : w.ownsRow B' e n v m xs := by
  refine ⟨h.1, ?_⟩
  rcases h.2 with hn | ⟨g, cap, cur, hv, hbg, rest⟩
  · exact .inl hn
  · exact .inr ⟨g, cap, cur, hv, Nat.le_trans hB hbg, rest⟩
theorem row_keep {w w' : World} {B e n m : Nat} {v : Value} {xs : List Value} (h : w.ownsRow B e n v m xs) (hb : Below w.heap.size w w') : w'.ownsRow B e n v m xs :=
  h.kept (row := none) ⟨hb.os, hb.tape, hb.output, hb.size, fun k hk _ => hb.block k hk⟩ (by cases hv : v.ownBlock <;> simp)
theorem row_slice {w : World} {B e n m : Nat} {v : Value} {xs : List Value} (h : w.ownsRow B e n v m xs) : ∃ a c, v = .slice a m c := by
  rcases h.2 with ⟨rfl, h0⟩ | ⟨g, cap, cur, rfl, _⟩
  · exact ⟨none, 0, by rw [h0]⟩
  · exact ⟨_, _, rfl⟩
theorem c2_cells {w : World} {X : Nat} {r c : Value} (h : C2 w X r c) : ∀ (j : Nat) (u : Value), [r, c][j]? = some u → w.cell? ((⟨X, 0, none⟩ : Addr).add j) = some u := by
  intro j u hj
  have ha : ∀ j, (⟨X, 0, none⟩ : Addr).add j = ⟨X, j, none⟩ := fun j => by unfold Addr.add; split <;> simp_all
  rw [ha]
  match j, hj with
  | 0, hj => simp at hj; subst hj; exact h.1
  | 1, hj => simp at hj; subst hj; exact h.2
section
variable {w : World} {ops : Array Oper} {rest : List Oper} {o : Oper} {a : Act} {Q : Exit → Act → World → Prop} {B X : Nat} {v : Value} {K : List Sp} {r c : Int}
theorem run_appS (ty : TypeId) (hown : RowS w B v K) (hc : C2 w X (.int .i64 r) (.int .i64 c)) (hl : K.length < 1000000) (hB : B ≤ w.heap.size) :
    ∃ v' w', (Builtin.append_ #[28, 28] ty #[v, .slice (some ⟨X, 0, none⟩) 1 1]).run Try.prog w = .ok v' w' ∧ RowS w' B v' (K ++ [(r, c)]) ∧ w.grownBy w' v.ownBlock ∧ (v'.ownBlock = v.ownBlock ∨ v'.ownBlock = some w.heap.size) := by
  obtain ⟨i0, hi, hz0, hz1, hz2⟩ := info_parts info_spot
  obtain ⟨v', w', h1, h2, h3, _, h4⟩ := run_append_own_at (P := Try.prog) w B 28 ty 35 i0 (.agg #[.int .i64 0, .int .i64 0]) 2 16 Try.underlying28 hi hz0 hz1 hz2 rfl (by decide) v K.length (flatS K) hown
    ⟨X, 0, none⟩ 1 1 [.int .i64 r, .int .i64 c] rfl (c2_cells hc) (fun u hu => by simp at hu; rcases hu with rfl | rfl <;> rfl) (by unfold maxLen; omega) (by omega) hB
  exact ⟨v', w', h1, by unfold RowS; rw [flatS_append, List.length_append]; exact h2, h3, h4⟩
theorem wpList_appS (hg : o.guard = none) (s x : Operand) (hop : o.op = Op.call { callee := Callee.builtin Builtin.append, args := #[s, x], argTypes := #[28, 28] })
    (hs : a.eval s = v) (hx : a.eval x = .slice (some ⟨X, 0, none⟩) 1 1) (hown : RowS w B v K) (hc : C2 w X (.int .i64 r) (.int .i64 c)) (hl : K.length < 1000000) (hB : B ≤ w.heap.size)
    (hK : ∀ v' w', RowS w' B v' (K ++ [(r, c)]) → w.grownBy w' v.ownBlock → (v'.ownBlock = v.ownBlock ∨ v'.ownBlock = some w.heap.size) → wpList Try.prog ops Q rest (a.put o.dst v') w') : wpList Try.prog ops Q (o :: rest) a w := by
  refine wpList_plain hg fun K' hK' => ?_
  obtain ⟨v', w', hrun, r1, r2, r3⟩ := run_appS o.type hown hc hl hB
  unfold Oper.wp
  simp [execOp, hop, resolve, invoke, builtin, hs, hx, hrun, Result.andThen]
  exact hK' _ _ (hK v' w' r1 r2 r3)
theorem wpListIn_appS {F : Fence} {n : Nat} (hg : o.guard = none) (s x : Operand) (hop : o.op = Op.call { callee := Callee.builtin Builtin.append, args := #[s, x], argTypes := #[28, 28] })
    (hs : a.eval s = v) (hx : a.eval x = .slice (some ⟨X, 0, none⟩) 1 1) (hown : RowS w B v K) (hc : C2 w X (.int .i64 r) (.int .i64 c)) (hl : K.length < 1000000) (hB : B ≤ w.heap.size)
    (hK : ∀ v' w', RowS w' B v' (K ++ [(r, c)]) → w.grownBy w' v.ownBlock → (v'.ownBlock = v.ownBlock ∨ v'.ownBlock = some w.heap.size) → wpListIn F n Try.prog ops Q rest (a.put o.dst v') w') : wpListIn F n Try.prog ops Q (o :: rest) a w := by
  refine wpListIn_plain hg fun K' hK' => ?_
  obtain ⟨v', w', hrun, r1, r2, r3⟩ := run_appS o.type hown hc hl hB
  unfold Oper.wpIn
  refine ⟨?_, ?_⟩
  · simp [Oper.about, hop, resolve, Target.leads, Sem.run_pure]
  · rw [Oper.semAt_plain F _ _ (by rw [hop]; intro c hc'; cases hc')]
    simp [execOp, hop, resolve, invoke, builtin, hs, hx, hrun, Result.andThen]
    exact hK' _ _ (hK v' w' r1 r2 r3)
end

/-- A range over the places of a map, outside a round: no early end. -/
theorem range_keys {n : Nat} (h1 : 1 ≤ n) {G : Nat} {lb : Array Value} {S : List Sp → Prop} {N : Nat} {w0 : World} (hent : ∀ args w, (callFunc G args).run Try.prog w = .ok (.enter G args) w)
    {g : Operand} {p : Tmp} {assign body : Code} {Q : Exit → Act → World → Prop} {a : Act} {w : World} (s : Tmp) (hseq : KeysGive (n - 1) G lb S N w0) (hb0 : Below w0.heap.size w0 w)
    (hg : a.eval g = .func (.func G) #[] lb) (I : List Sp → World → Prop) (hI : OwnFrom w.heap.size I) (h0 : I [] w) (hIs : ∀ pre W, I pre W → w.heap.size ≤ W.heap.size)
    (hassign : ∀ (lo : Nat) (x : Sp) (W : World) (K : Act → World → Prop), K { tmps := (a.tmps.setIfInBounds p (spotV x.1 x.2)).setIfInBounds s (.pointer (some ⟨W.heap.size, 0, none⟩)), defers := [] } (W.alloc (spotO x.1 x.2)) →
      assign.wpIn (Fence.wide.inRound lo) (n - 1 - 1) Try.prog (Exit.then K (fun _ _ _ => False)) { tmps := a.tmps.setIfInBounds p (spotV x.1 x.2), defers := [] } W)
    (hbody : ∀ (lo : Nat) (pre : List Sp) (x : Sp) (W : World) (Bx : Nat), w.heap.size ≤ lo → (∃ r, W.heap[lo]? = some (.loop r)) → I pre W → w.heap.size ≤ Bx → Blk W Bx #[.int .i64 x.1, .int .i64 x.2] 35 → pre.length < N →
      body.wpIn (Fence.wide.inRound lo) (n - 1 - 1) Try.prog (ownPostG w.heap.size KeepsWalks I (fun _ _ _ => False) (pre ++ [x]) W) { tmps := (a.tmps.setIfInBounds p (spotV x.1 x.2)).setIfInBounds s (.pointer (some ⟨Bx, 0, none⟩)), defers := [] } W)
    (hdone : ∀ (D : Nat) (ys : List Sp) (W : World), w.heap.size ≤ D → S ys → I ys W → W.heap[D]? = some (.deferred (some [])) → Q .normal { a with defers := { target := .collected D, args := #[] } :: a.defers } W) :
    (Code.rangeFunc g #[p] assign body).wp Try.prog Q a w :=
  (wpIn_wide (n := n)).1 (wpIn_rangeFunc_ownH (F := Fence.wide) rfl h1 hg trivial hent hseq walksK_t walksK_b hb0 (fun _ => rfl) I (fun _ _ _ => False) hI (fun _ _ _ _ _ h _ _ => h) h0
    (fun x a' W => ∃ Bx, w.heap.size ≤ Bx ∧ Blk W Bx #[.int .i64 x.1, .int .i64 x.2] 35 ∧ a' = { tmps := (a.tmps.setIfInBounds p (spotV x.1 x.2)).setIfInBounds s (.pointer (some ⟨Bx, 0, none⟩)), defers := [] })
    (fun x a' _ X Y row hs hg' hr => by obtain ⟨Bx, e1, e2, e3⟩ := hs; exact ⟨Bx, e1, Blk.own Bx 35 (fun (_ : Unit) => #[.int .i64 x.1, .int .i64 x.2]) () X Y row e2 hg' (fun r e => (hr r e).2), e3⟩)
    (fun lo pre x W K hi hK => by rw [fold_one]; exact hassign lo x W K (hK _ _ ((KeepsOthers.alloc _ _).from _) (KeepsWalks.alloc _ _) (hI.alloc _ hi) ⟨W.heap.size, hIs _ _ hi, Blk.new W _ _, rfl⟩))
    (fun lo pre x a' W hl hr hi ⟨Bx, e1, e2, e3⟩ hlt => by subst e3; exact hbody lo pre x W Bx hl hr hi e1 e2 hlt)
    (fun D xs W hD hS hi hk => hdone D xs W hD hS hi hk)
    (fun D c pre W hD hS hi hk => hi.elim))

/-- What AppendSeq keeps between two rounds: the box holds a row of what has come. -/
def ApI (w : World) (Bs : Nat) (pre : List Sp) (W : World) : Prop := (∃ v, Blk W Bs #[v] 28 ∧ RowS W w.heap.size v pre) ∧ Below w.heap.size w W
theorem row_own {W W' : World} {row : Option Nat} {B e n m : Nat} {v : Value} {xs : List Value} (h : W.ownsRow B e n v m xs) (hg : W.grownBy W' row)
    (hrow : ∀ r, row = some r → ∃ o : Obj, W.heap[r]? = some o ∧ o.isCells = false) : W'.ownsRow B e n v m xs := by
  refine h.kept hg ?_
  rcases h.2 with ⟨rfl, _⟩ | ⟨g, cap, cur, rfl, _, hgb, _⟩
  · exact .inl rfl
  · refine .inr fun e' => ?_
    obtain ⟨o, ho, hw⟩ := hrow g (by simpa [Value.ownBlock] using e'.symm)
    rw [hgb] at ho; cases ho; cases hw
theorem apI_own {w W0 : World} {Bs : Nat} (hb : w.heap.size ≤ W0.heap.size) : OwnFrom W0.heap.size (ApI w Bs) := fun pre X Y row ⟨⟨v, h1, h2⟩, h3⟩ hg hr =>
  ⟨⟨v, Blk.own Bs _ (fun (_ : Unit) => #[v]) () X Y row h1 hg (fun r e => (hr r e).2), row_own h2 hg (fun r e => (hr r e).2)⟩, h3.grown hg h3.size (fun k e => Nat.le_trans hb (hr k e).1)⟩
/-- A row of places is no block that holds anything else. -/
theorem row_ne {W : World} {B e n m : Nat} {v : Value} {xs : List Value} (h : W.ownsRow B e n v m xs) {j : Nat} {vs : Array Value} {t : TypeId} (hj : Blk W j vs t) (hno : t ≠ e) : v.ownBlock ≠ some j := by
  rcases h.2 with ⟨rfl, _⟩ | ⟨g, cap, cur, rfl, _, hgb, _⟩
  · intro e'; cases e'
  · intro e'
    have : g = j := by simpa [Value.ownBlock] using e'
    subst this
    rw [show W.heap[g]? = _ from hj] at hgb
    cases hgb
    exact hno rfl
theorem row_walks {W W' : World} {B e n m : Nat} {v : Value} {xs : List Value} (h : W.ownsRow B e n v m xs) (hg : W.grownBy W' v.ownBlock) : KeepsWalks W W' := KeepsWalks.of_grownBy hg (by
  intro j o hj ho
  rcases h.2 with ⟨rfl, _⟩ | ⟨g, cap, cur, rfl, _, hgb, _⟩
  · cases hj
  · have : g = j := by simpa [Value.ownBlock] using hj
    subst this
    rw [hgb] at ho; cases ho; rfl)
theorem row_others {W W' : World} {B e n m : Nat} {v : Value} {xs : List Value} (h : W.ownsRow B e n v m xs) (hg : W.grownBy W' v.ownBlock) : KeepsOthers W W' := ⟨hg.size, fun k o hk ho => by
  refine (hg.block k (Array.getElem?_eq_some_iff.1 hk).1 ?_).trans hk
  intro e'
  rcases h.2 with ⟨rfl, _⟩ | ⟨g, cap, cur, rfl, _, hgb, _⟩
  · cases e'
  · have : k = g := by simpa [Value.ownBlock] using e'
    subst this
    rw [hgb] at hk; cases hk; cases ho⟩
theorem row_grown {W W' : World} {w : World} {e n m : Nat} {v : Value} {xs : List Value} (hb : Below w.heap.size w W) (h : W.ownsRow w.heap.size e n v m xs) (hg : W.grownBy W' v.ownBlock) : Below w.heap.size w W' :=
  hb.grown hg hb.size (fun k e' => (h.lt k e').1)

set_option maxRecDepth 100000 in
set_option maxHeartbeats 2000000 in
theorem appendSeq_any {G : Nat} {lb : Array Value} {S : List Sp → Prop} {N : Nat} {w : World} (hent : ∀ args w, (callFunc G args).run Try.prog w = .ok (.enter G args) w) (hseq : KeysGive 11 G lb S N w) (hN : N ≤ 65536) :
    Calls Try.prog 79 #[.slice none 0 0, .func (.func G) #[] lb] w fun e w' => ∃ v K, e = .returned v ∧ S K ∧ RowS w' w.heap.size v K ∧ Below w.heap.size w w' := by
  refine (callsIn_wide (n := 12)).1 (callsIn_of_wp_marks Try.func79 rfl trivial (wpIn_wide.2 ?_) rfl)
  simp only [Try.ntmps79, List.size_toArray, List.length_cons, List.length_nil, Nat.reduceAdd, Nat.reduceSub, Array.replicate_succ, Array.replicate_zero, List.push_toArray, List.append_toArray, List.nil_append, List.cons_append]
  replace hseq := hide hseq
  go_wp2_with fail
  have kb := hide (Blk.new w #[.slice none 0 0] 28)
  have B0 := hide (step (Below.refl w.heap.size w) (.cells #[.slice none 0 0] 28))
  obtain ⟨W0, hW0⟩ : ∃ W0, w.alloc (.cells #[.slice none 0 0] 28) = W0 := ⟨_, rfl⟩
  have z0 : Hid (W0.heap.size = w.heap.size + 1) := hide (by rw [← hW0]; simp)
  rw [hW0] at kb B0 ⊢
  clear hW0
  refine range_keys (n := 12) (by decide) hent 5 hseq.out B0.out rfl (ApI w w.heap.size) (apI_own B0.out.size) ⟨⟨_, kb.out, RowS.nil _ _⟩, B0.out⟩ (fun pre W h => ?_) ?assign ?body ?done
  · have := h.1.choose_spec.1.lt
    have := z0.out
    omega
  case assign =>
    intro lo x W K hK
    gi_wp2
    exact hK
  case body =>
    rintro lo pre ⟨x1, x2⟩ W Bx hlo hr ⟨⟨v, bk, hrow⟩, hb⟩ hBx bX hlt
    obtain ⟨s0, s1⟩ := bX.c2
    have c0 := bk.c1
    have f0 := bk.fr 0
    simp only at s0 s1
    obtain ⟨av, cv, rfl⟩ := row_slice hrow
    have hne : Hid ((Value.slice av pre.length cv).ownBlock ≠ some w.heap.size) := hide (row_ne hrow bk (by decide))
    have hsz := hb.size
    have hl := hide (show pre.length < 1000000 by omega)
    replace hrow := hide hrow
    replace bk := hide bk
    replace hb := hide hb
    clear bX hr hlt
    gi_wp2_with (first
      | (gi_at_builtin; refine wpListIn_appS rfl _ _ rfl rfl rfl (hrow.out.alloc (spotO x1 x2)) (C2.new W _ _ _) hl.out (Nat.le_trans hsz (by simp)) ?_; intro v' w1 hrow1 hg1 hloc; obtain ⟨a1, k1, rfl⟩ : ∃ a c, v' = .slice a (pre.length + 1) c := by { have h := row_slice hrow1; rwa [List.length_append] at h }; have bk1 := (bk.out.alloc (spotO x1 x2)).kept hg1 (fun e => hne.out e.symm); have c1 := bk1.c1; have f1 := bk1.fr 0; replace hrow1 := hide hrow1; replace hg1 := hide hg1)
      | gi_in)
    have hne1 : (Value.slice a1 (pre.length + 1) k1).ownBlock ≠ some w.heap.size := row_ne hrow1.out bk1 (by decide)
    refine ⟨(((KeepsOthers.alloc W _).trans (row_others (hrow.out.alloc (spotO x1 x2)) hg1.out)).trans (KeepsOthers.setCell _ _ _)).from _, ((KeepsWalks.alloc W _).trans (row_walks (hrow.out.alloc (spotO x1 x2)) hg1.out)).trans (KeepsWalks.setCell _ _ _), ⟨⟨_, bk1.set _, ?_⟩, ?_⟩⟩
    · exact hrow1.out.kept (grownBy_setCell' w1 _ _) (.inr hne1)
    · exact (row_grown (step hb.out (spotO x1 x2)) (hrow.out.alloc (spotO x1 x2)) hg1.out).setCell (p := ⟨w.heap.size, 0, none⟩) (Nat.le_refl _) _
  case done =>
    rintro D ys W hD hS ⟨⟨v, bk, hrow⟩, hb⟩ hK
    have c0 := bk.c1
    have zz := z0.out
    replace hS := hide hS
    go_wp2_with fail
    refine ⟨by simp, .inl ⟨_, _, rfl, run_takeDeferred hK, ?_⟩⟩
    exact ⟨_, results_tmp rfl _ _ _, v, ys, rfl, hS.out, row_own hrow (grownBy_putObj' _ _ _) (fun r e => by cases e; exact ⟨_, hK, rfl⟩), hb.grown (grownBy_putObj' _ _ _) hb.size (fun k e => by cases e; omega)⟩

set_option maxHeartbeats 1000000 in
theorem collect_any {G : Nat} {lb : Array Value} {S : List Sp → Prop} {N : Nat} {w : World} (hent : ∀ args w, (callFunc G args).run Try.prog w = .ok (.enter G args) w) (hseq : KeysGive 11 G lb S N w) (hN : N ≤ 65536) :
    Calls Try.prog 67 #[.func (.func G) #[] lb] w fun e w' => ∃ v K, e = .returned v ∧ S K ∧ RowS w' w.heap.size v K ∧ Below w.heap.size w w' := by
  have H := hide (appendSeq_any hent hseq hN)
  clear hseq
  go_enter Try.func67, Try.ntmps67
  go_wp2_with fail
  refine H.out.mono ?_
  rintro e w' ⟨v, K, rfl, h⟩
  go_wp2_with fail
  go_ret
  exact ⟨v, K, rfl, h⟩
set_option maxHeartbeats 1000000 in
/-- slices.SortedFunc: a new row of what the iterator gave, in row order. -/
theorem sortedFunc_any {G : Nat} {lb : Array Value} {S : List Sp → Prop} {N : Nat} {w : World} (hent : ∀ args w, (callFunc G args).run Try.prog w = .ok (.enter G args) w) (hseq : KeysGive 11 G lb S N w) (hN : N ≤ 65536) (hS : ∀ K, S K → K.length ≤ 65536) :
    Calls Try.prog 48 #[.func (.func G) #[] lb, .func (.func 50) #[] #[]] w fun e w' => ∃ v K, e = .returned v ∧ S K ∧ RowS w' w.heap.size v (sortL K) ∧ Below w.heap.size w w' := by
  have H := hide (collect_any hent hseq hN)
  clear hseq
  go_enter Try.func48, Try.ntmps48
  go_wp2_with fail
  refine H.out.mono ?_
  rintro e w1 ⟨v, K, rfl, hK, hrow, hb⟩
  have HS := hide (sortS_any hrow (by have := hS K hK; omega))
  replace hrow := hide hrow
  replace hb := hide hb
  go_wp2_with fail
  refine HS.out.mono ?_
  rintro e w2 ⟨rfl, hrow2, hg2⟩
  replace hrow2 := hide hrow2
  replace hg2 := hide hg2
  go_wp2_with fail
  go_ret
  exact ⟨v, K, rfl, hK, by unfold RowS; rw [sortL_len]; exact hrow2.out, row_grown hb.out hrow.out hg2.out⟩
end Go.Proofs.Ytmfkeobjbcinpaa
