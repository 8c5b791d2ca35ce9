/- tree.isAsTold of every node; tree.May of every tree. Trees of one's own: every list in a block that nothing else holds, told by the list of these blocks. tree.Copy's closure: a tree in memory of its own. Small facts on sizes, kids and leaves of trees; no Go in sight. quadrilleref9.Eq: the document's own comparison of two trees. -/
import Derived.Test.YtdlomdbmmhjppaaGreatDoorTaJ
import Derived.Test.YtdlomdbmmhjppaaGreatDoorTold9c
import Derived.Test.YtdlomdbmmhjppaaGreatDoorTdJ
import Derived.Test.YtdlomdbmmhjppaaGreatDoorTold9e
import Derived.Test.YtdlomdbmmhjppaaGreatDoorSmJ
namespace Go.Proofs.YtdlomdbmmhjppaaGreatDoor.T9
open Go.RowKit Go.Sort
set_option linter.unusedVariables false

theorem told_any (n : Nd) (a : Option Addr) (len cap : Nat) (w : World) : Calls Tryz.prog 33 #[exV n (.slice a len cap)] w fun e w' => e = .returned (.bool (toldB n len)) ∧ Below w.heap.size w w' := by
  by_cases h : 1 ≤ n.kind ∧ n.kind ≤ 9
  · rcases (show n.kind = 1 ∨ n.kind = 2 ∨ n.kind = 3 ∨ n.kind = 4 ∨ n.kind = 5 ∨ n.kind = 6 ∨ n.kind = 7 ∨ n.kind = 8 ∨ n.kind = 9 by omega) with h | h | h | h | h | h | h | h | h
    · exact told_1 n a len cap w h
    · exact told_2 n a len cap w h
    · exact told_3 n a len cap w h
    · exact told_4 n a len cap w h
    · cases q : mayB n.ref.row n.ref.col
      · exact told_5f n a len cap w h q
      · exact told_5t n a len cap w h q
    · cases q : mayB n.ref.row n.ref.col
      · exact told_6f n a len cap w h q
      · cases q' : mayB n.to.row n.to.col
        · exact told_6tf n a len cap w h ⟨q, q'⟩
        · exact told_6tt n a len cap w h ⟨q, q'⟩
    · exact told_7 n a len cap w h
    · exact told_8 n a len cap w h
    · cases q : takesB n.fn len
      · exact told_9f n a len cap w h q
      · exact told_9t n a len cap w h q
  · exact told_0 n a len cap w h
mutual
/-- Are all nodes as told? -/
def allE : Ex → Bool | .mk nd ks => toldB nd ks.length && allL ks
def allL : List Ex → Bool | [] => true | k :: r => allE k && allL r
end
def mySt (s : Unit) (nd : Nd) (len : Nat) (d : Int) : Bool × Unit := (toldB nd len, ())
mutual
theorem goE_my : ∀ (t : Ex) (d : Int) (s : Unit), (goE mySt d t s).1 = allE t
  | .mk nd ks, d, s => by
    rw [goE, allE]
    show (if toldB nd ks.length = true then goL mySt (d + 1) ks () else (false, ())).1 = _
    cases toldB nd ks.length
    · rfl
    · simp only [if_true, Bool.true_and]; exact goL_my ks (d + 1) ()
theorem goL_my : ∀ (ks : List Ex) (d : Int) (s : Unit), (goL mySt d ks s).1 = allL ks
  | [], d, s => by rw [goL, allL]
  | k :: r, d, s => by
    rw [goL, allL]
    have := goE_my k d s
    rw [this]
    cases allE k
    · simp
    · simp; exact goL_my r d _
end
set_option maxHeartbeats 1000000 in
set_option maxRecDepth 100000 in
theorem my_call (nd : Nd) (a : Option Addr) (len cap : Nat) (d : Int) (w : World) : Calls Tryz.prog 32 #[exV nd (.slice a len cap), .int .i64 d] w fun e w' => e = .returned (.bool (toldB nd len)) ∧ Below w.heap.size w w' := by
  have HT := hide (told_any nd a len cap (w.alloc (exO nd (.slice a len cap))))
  have hld := hide (Blk.new w (exC nd (.slice a len cap)) 30)
  generalize toldB nd len = B at *
  go_enter Tryz.func32, Tryz.ntmps32
  go_wp2_with (first
    | (refine wpList_load_blk rfl 30 _ rfl _ rfl _ hld.out _ Tryz.underlying30 rfl (exC_info _ _) ?_)
    | (go_at_call 33; refine HT.out.mono ?_; rintro e w1 ⟨rfl, hb1⟩; have hb1 := hide (next (step (Below.refl _ w) _) hb1)))
  go_ret
  exact ⟨rfl, hb1.out⟩
theorem my_see : See (fun (_ : Unit) _ => True) (fun _ => False) mySt 32 #[] where
  call s nd a len cap d w _ := by
    have := my_call nd a len cap d w
    refine (show Calls Tryz.prog 32 (#[exV nd (.slice a len cap), .int .i64 d] ++ #[]) w _ from this).mono ?_
    rintro e w' ⟨rfl, hb⟩
    exact ⟨rfl, trivial, Chg.of_below hb⟩
  ent := enters Tryz.func32 (by kernel_rfl) (by kernel_rfl)
  lt s w _ k h := h.elim
  same s w w' _ _ := trivial
theorem depth_mem : ∀ {ks : List Ex} {k : Ex}, k ∈ ks → depthE k ≤ depthL ks
  | [], k, h => by cases h
  | x :: r, k, h => by
    rw [depthL]
    rcases List.mem_cons.1 h with rfl | h
    · omega
    · have := depth_mem h; omega
/-- What May answers. -/
def mayR (t : Ex) : Int := if fitB t then (if allE t then 0 else 22) else 2
set_option maxHeartbeats 1000000 in
set_option maxRecDepth 100000 in
theorem may_any (t : Ex) (v : Value) (w : World) (ht : Tree w v t) : Calls Tryz.prog 12 #[v] w fun e w' => e = .returned (.int .i64 (mayR t)) ∧ Below w.heap.size w w' := by
  obtain ⟨nd, ks⟩ := t
  obtain ⟨a, len, cap, rfl, _, _, _, _⟩ := ht.un
  have bel := step (Below.refl w.heap.size w) (exO nd (.slice a len cap))
  have P0 := hide (Blk.new w (exC nd (.slice a len cap)) 30)
  have HG := hide (great_any (.mk nd ks) (exV nd (.slice a len cap)) _ (ht.step bel))
  replace bel := hide bel
  cases q : fitB (.mk nd ks)
  · rw [q] at HG
    have hr : mayR (.mk nd ks) = 2 := by unfold mayR; rw [q]; rfl
    rw [hr]
    clear hr
    go_enter Tryz.func12, Tryz.ntmps12
    go_wp2_with (first
      | (refine wpList_load_blk rfl 30 _ rfl _ rfl _ P0.out _ Tryz.underlying30 rfl (exC_info _ _) ?_)
      | (go_at_call 30; refine HG.out.mono ?_; rintro e w1 ⟨rfl, hb1⟩; replace hb1 := hide (next bel.out hb1)))
    go_ret
    exact ⟨rfl, hb1.out⟩
  · rw [q] at HG
    have hd := (of_decide_eq_true q).2.1
    have HO := hide (fun w1 (h : Tree w1 (exV nd (.slice a len cap)) (.mk nd ks)) => over_any my_see w1.heap.size (fun k h => h.elim) (fun d t => 1 ≤ d ∧ d + depthE t ≤ 70) (by
      intro d t s hd _
      obtain ⟨nd, ks⟩ := t
      rw [depthE] at hd
      exact ⟨by omega, by omega, fun k hk => ⟨by omega, by have : depthE k ≤ depthL ks := depth_mem hk; omega⟩⟩) (.mk nd ks) (exV nd (.slice a len cap)) () w1 ⟨by omega, by omega⟩ h (Nat.le_refl _) trivial)
    have hr : mayR (.mk nd ks) = if allE (.mk nd ks) then 0 else 22 := by unfold mayR; rw [q]; rfl
    rw [hr]
    simp only [goE_my] at HO
    replace ht := hide ht
    clear hr hd
    cases q2 : allE (.mk nd ks)
    all_goals
      rw [q2] at HO
      go_enter Tryz.func12, Tryz.ntmps12
      go_wp2_with (first
        | (refine wpList_load_blk rfl 30 _ rfl _ rfl _ P0.out _ Tryz.underlying30 rfl (exC_info _ _) ?_)
        | (refine wpList_load_blk rfl 30 _ rfl _ rfl _ (by with_reducible exact P1.out) _ Tryz.underlying30 rfl (exC_info _ _) ?_)
        | (go_at_call 30; refine HG.out.mono ?_; rintro e w1 ⟨rfl, hb1⟩; have P1 := hide (P0.out.keep hb1); replace hb1 := hide (next bel.out hb1))
        | (go_at_call 31; refine (HO.out _ (ht.out.step hb1.out)).mono ?_; rintro e w2 ⟨rfl, _, hc2⟩; have hb2 := hide (next hb1.out (hc2.below (Nat.le_refl _) (fun k h => h.elim)))))
      go_ret
      exact ⟨rfl, hb2.out⟩
end Go.Proofs.YtdlomdbmmhjppaaGreatDoor.T9
namespace Go.Proofs.YtdlomdbmmhjppaaGreatDoor.T9
open Go.RowKit Go.Sort
set_option linter.unusedVariables false

mutual
/-- The tree lies in memory; the blocks of its lists, each one whole. -/
def Ow (w : World) (v : Value) : Ex → List Nat → Prop
  | .mk nd ks, bs => ∃ a len cap, v = exV nd (.slice a len cap) ∧ len = ks.length ∧ ((a = none ∧ len = 0 ∧ cap = 0 ∧ bs = []) ∨ ∃ b cells bs', a = some ⟨b, 0, none⟩ ∧ bs = b :: bs' ∧ w.heap[b]? = some (.cells cells 30 (0, 0)) ∧ cells.size = cap * 14 ∧ (len ≤ cap ∧ cap ≤ maxLen) ∧ OwL w b 0 ks bs')
def OwL (w : World) (b o : Nat) : List Ex → List Nat → Prop
  | [], bs => bs = []
  | k :: r, bs => ∃ cs b1 b2, bs = b1 ++ b2 ∧ Ow w (.agg cs) k b1 ∧ w.rangeAt b o cs.toList ∧ OwL w b (o + 14) r b2
end
mutual
/-- No text and no list is longer than any may be. -/
def SmE : Ex → Prop | .mk nd ks => nd.text.size ≤ 4611686018427387904 ∧ ks.length ≤ 4611686018427387904 ∧ SmL ks
def SmL : List Ex → Prop | [] => True | k :: r => SmE k ∧ SmL r
end
theorem SmL_of : ∀ {ks : List Ex}, (∀ k ∈ ks, SmE k) → SmL ks
  | [], _ => by unfold SmL; trivial
  | k :: r, h => by unfold SmL; exact ⟨h k (List.mem_cons_self ..), SmL_of fun x hx => h x (List.mem_cons_of_mem _ hx)⟩
theorem SmL.get : ∀ {ks : List Ex}, SmL ks → ∀ k ∈ ks, SmE k
  | [], _, k, hk => by cases hk
  | k :: r, h, x, hx => by
    unfold SmL at h
    rcases List.mem_cons.1 hx with rfl | hx
    · exact h.1
    · exact h.2.get x hx
theorem In.sm {m : Nat → Prop} {w : World} : ∀ (t : Ex) {v : Value}, In m w v t → SmE t := by
  refine Ex.ind fun nd ks ih => ?_
  intro v h
  unfold SmE
  obtain ⟨a, len, cap, _, hl, hs, ht, _⟩ := h.un
  refine ⟨ht.out, by have := hl.out; have := hs.out; omega, SmL_of fun k hk => ?_⟩
  obtain ⟨v', h'⟩ := h.kid k hk
  exact ih k hk h'
theorem Ow.un {w : World} {v : Value} {nd : Nd} {ks : List Ex} {bs : List Nat} (h : Ow w v (.mk nd ks) bs) : ∃ a len cap, v = exV nd (.slice a len cap) ∧ len = ks.length ∧ ((a = none ∧ len = 0 ∧ cap = 0 ∧ bs = []) ∨ ∃ b cells bs', a = some ⟨b, 0, none⟩ ∧ bs = b :: bs' ∧ w.heap[b]? = some (.cells cells 30 (0, 0)) ∧ cells.size = cap * 14 ∧ (len ≤ cap ∧ cap ≤ maxLen) ∧ OwL w b 0 ks bs') := by
  unfold Ow at h; exact h
theorem OwL.get {w : World} {b : Nat} : ∀ {ks : List Ex} {o : Nat} {bs : List Nat}, OwL w b o ks bs → ∀ i (hi : i < ks.length), ∃ cs b1, (∀ x ∈ b1, x ∈ bs) ∧ Ow w (.agg cs) ks[i] b1 ∧ w.rangeAt b (o + i * 14) cs.toList
  | [], _, _, _, i, hi => absurd hi (Nat.not_lt_zero i)
  | k :: r, o, bs, h, 0, _ => by
    unfold OwL at h
    obtain ⟨cs, b1, b2, rfl, h1, h2, _⟩ := h
    exact ⟨cs, b1, fun x hx => List.mem_append_left _ hx, h1, by simpa using h2⟩
  | k :: r, o, bs, h, i + 1, hi => by
    unfold OwL at h
    obtain ⟨cs, b1, b2, rfl, _, _, h3⟩ := h
    obtain ⟨cs', c1, hs, h1, h2⟩ := OwL.get h3 i (by simpa using hi)
    exact ⟨cs', c1, fun x hx => List.mem_append_right _ (hs x hx), by simpa only [List.getElem_cons_succ] using h1, by rw [show o + (i + 1) * 14 = o + 14 + i * 14 by omega]; exact h2⟩
theorem Ow.in' {w : World} {m : Nat → Prop} : ∀ (t : Ex) {v : Value} {bs : List Nat}, Ow w v t bs → (∀ k ∈ bs, m k) → SmE t → In m w v t := by
  refine Ex.ind fun nd ks ih => ?_
  intro v bs h hm hs
  unfold SmE at hs
  obtain ⟨a, len, cap, hv, hl, h⟩ := h.un
  unfold In
  refine ⟨a, len, cap, hv, hl, by omega, hs.1, ?_⟩
  rcases h with ⟨_, h, _⟩ | ⟨b, cells, bs', ha, hb, _, _, _, hk⟩
  · exact .inl h
  · refine .inr ⟨b, 0, ha, hm b (by rw [hb]; exact List.mem_cons_self ..), Kids.of fun i hi => ?_⟩
    obtain ⟨cs, b1, hsub, h1, h2⟩ := hk.get i hi
    exact ⟨cs, ih _ (List.getElem_mem hi) h1 (fun k hk => hm k (by rw [hb]; exact List.mem_cons_of_mem _ (hsub k hk))) (hs.2.2.get _ (List.getElem_mem hi)), h2⟩
mutual
/-- From world to world, where its blocks are the same. -/
theorem Ow.move {w w' : World} : ∀ (t : Ex) {v : Value} {bs : List Nat}, Ow w v t bs → (∀ k ∈ bs, w'.heap[k]? = w.heap[k]?) → Ow w' v t bs
  | .mk nd ks, v, bs, h, hm => by
    unfold Ow at h ⊢
    obtain ⟨a, len, cap, hv, hl, h⟩ := h
    refine ⟨a, len, cap, hv, hl, ?_⟩
    rcases h with h | ⟨b, cells, bs', ha, hb, hc, hz, hle, hk⟩
    · exact .inl h
    · subst hb
      exact .inr ⟨b, cells, bs', ha, rfl, (hm b (List.mem_cons_self ..)).trans hc, hz, hle, OwL.move ks hk (fun k hk => hm k (List.mem_cons_of_mem _ hk)) (fun j => World.cell?_of_block (hm b (List.mem_cons_self ..)))⟩
theorem OwL.move {w w' : World} {b : Nat} : ∀ (ks : List Ex) {o : Nat} {bs : List Nat}, OwL w b o ks bs → (∀ k ∈ bs, w'.heap[k]? = w.heap[k]?) → (∀ j, w'.cell? ⟨b, j, none⟩ = w.cell? ⟨b, j, none⟩) → OwL w' b o ks bs
  | [], o, bs, h, hm, hc => by unfold OwL at h ⊢; exact h
  | k :: r, o, bs, h, hm, hc => by
    unfold OwL at h ⊢
    obtain ⟨cs, b1, b2, rfl, h1, h2, h3⟩ := h
    exact ⟨cs, b1, b2, rfl, Ow.move k h1 (fun k hk => hm k (List.mem_append_left _ hk)), fun j v hv => (hc _).trans (h2 j v hv), OwL.move r h3 (fun k hk => hm k (List.mem_append_right _ hk)) hc⟩
end
/-- The same where the list's own block is written behind its elements. -/
theorem OwL.move' {w w' : World} {b : Nat} : ∀ (ks : List Ex) {o : Nat} {bs : List Nat}, OwL w b o ks bs → (∀ k ∈ bs, w'.heap[k]? = w.heap[k]?) → (∀ j v, j < o + ks.length * 14 → w.cell? ⟨b, j, none⟩ = some v → w'.cell? ⟨b, j, none⟩ = some v) → OwL w' b o ks bs
  | [], o, bs, h, hm, hc => by unfold OwL at h ⊢; exact h
  | k :: r, o, bs, h, hm, hc => by
    unfold OwL at h ⊢
    obtain ⟨cs, b1, b2, rfl, h1, h2, h3⟩ := h
    have hz : cs.toList.length = 14 := by
      obtain ⟨nd, ks⟩ := k
      obtain ⟨a, len, cap, hv, _⟩ := h1.un
      have : cs = exC nd (.slice a len cap) := by simpa [exV] using hv
      rw [this, exC_len]
    refine ⟨cs, b1, b2, rfl, Ow.move k h1 (fun k hk => hm k (List.mem_append_left _ hk)), fun j v hv => hc _ v ?_ (h2 j v hv), OwL.move' r h3 (fun k hk => hm k (List.mem_append_right _ hk)) (fun j v hj => hc j v (by simp only [List.length_cons]; omega))⟩
    have := (List.getElem?_eq_some_iff.1 hv).1
    simp only [List.length_cons]
    omega
theorem OwL.snoc {w : World} {b : Nat} : ∀ (ks : List Ex) {o : Nat} {bs : List Nat} {k : Ex} {cs : Array Value} {bk : List Nat}, OwL w b o ks bs → Ow w (.agg cs) k bk → w.rangeAt b (o + ks.length * 14) cs.toList → OwL w b o (ks ++ [k]) (bs ++ bk)
  | [], o, bs, k, cs, bk, h, hk, hr => by
    unfold OwL at h
    subst h
    show OwL w b o [k] bk
    unfold OwL
    exact ⟨cs, bk, [], by simp, hk, by simpa using hr, by unfold OwL; rfl⟩
  | x :: r, o, bs, k, cs, bk, h, hk, hr => by
    unfold OwL at h
    obtain ⟨cs', b1, b2, rfl, h1, h2, h3⟩ := h
    show OwL w b o (x :: (r ++ [k])) (b1 ++ b2 ++ bk)
    unfold OwL
    exact ⟨cs', b1, b2 ++ bk, by simp, h1, h2, OwL.snoc r h3 hk (by rw [show o + 14 + r.length * 14 = o + (x :: r).length * 14 by simp only [List.length_cons]; omega]; exact hr)⟩
theorem Ow.cs {w : World} {cs : Array Value} {t : Ex} {bs : List Nat} (h : Ow w (.agg cs) t bs) : ∃ a len cap, cs = exC t.nd (.slice a len cap) := by
  obtain ⟨nd, ks⟩ := t
  obtain ⟨a, len, cap, hv, _⟩ := h.un
  exact ⟨a, len, cap, by simpa [exV, Ex.nd] using hv⟩
theorem Ow.agg {w : World} {v : Value} {t : Ex} {bs : List Nat} (h : Ow w v t bs) : ∃ a len cap, v = exV t.nd (.slice a len cap) := by
  obtain ⟨nd, ks⟩ := t
  obtain ⟨a, len, cap, hv, _⟩ := h.un
  exact ⟨a, len, cap, hv⟩
/-- A new tree: its blocks are unlike and none was there. -/
structure New (w w' : World) (v : Value) (t : Ex) (bs : List Nat) : Prop where
  ow : Ow w' v t bs
  nd : bs.Nodup
  at' : ∀ k ∈ bs, w.heap.size ≤ k ∧ k < w'.heap.size
end Go.Proofs.YtdlomdbmmhjppaaGreatDoor.T9
namespace Go.Proofs.YtdlomdbmmhjppaaGreatDoor.T9
open Go.RowKit Go.Sort
set_option linter.unusedVariables false

theorem heap_setCells (b : Nat) : ∀ (vs : List Value) (o : Nat) (w : World) (k : Nat), k ≠ b → (w.setCells b o vs).heap[k]? = w.heap[k]?
  | [], _, _, _, _ => rfl
  | v :: r, o, w, k, h => by rw [World.setCells, heap_setCells b r (o + 1) _ k h]; exact Below.heap_setCell _ _ _ k h
theorem size_setCells (b : Nat) : ∀ (vs : List Value) (o : Nat) (w : World), (w.setCells b o vs).heap.size = w.heap.size
  | [], _, _ => rfl
  | v :: r, o, w => by rw [World.setCells, size_setCells b r (o + 1)]; simp
theorem os_setCells (b : Nat) : ∀ (vs : List Value) (o : Nat) (w : World), (w.setCells b o vs).os = w.os ∧ (w.setCells b o vs).tape = w.tape ∧ (w.setCells b o vs).output = w.output
  | [], _, _ => ⟨rfl, rfl, rfl⟩
  | v :: r, o, w => by rw [World.setCells]; obtain ⟨h1, h2, h3⟩ := os_setCells b r (o + 1) (w.setCell ⟨b, o, none⟩ v); exact ⟨h1.trans rfl, h2.trans rfl, h3.trans rfl⟩
theorem row_setCells (b : Nat) (t : TypeId) : ∀ (vs : List Value) (o : Nat) (w : World) (cs : Array Value), w.heap[b]? = some (.cells cs t (0, 0)) → ∃ cs', (w.setCells b o vs).heap[b]? = some (.cells cs' t (0, 0)) ∧ cs'.size = cs.size
  | [], _, w, cs, h => ⟨cs, h, rfl⟩
  | v :: r, o, w, cs, h => by
    rw [World.setCells]
    obtain ⟨cs', h1, h2⟩ := row_setCells b t r (o + 1) _ _ (heap_setCell_same w b o cs t v h)
    exact ⟨cs', h1, by rw [h2]; simp⟩
theorem chg_setCells {m : Nat → Prop} {b : Nat} (hm : m b) (vs : List Value) (o : Nat) (w : World) : Chg m w (w.setCells b o vs) := by
  obtain ⟨h1, h2, h3⟩ := os_setCells b vs o w
  exact ⟨h1, h2, h3, Nat.le_of_eq (size_setCells b vs o w).symm, fun k _ hk => heap_setCells b vs o w k (fun e => hk (by rw [e]; exact hm))⟩
theorem below_setCells {B : Nat} {a w : World} (h : Below B a w) {b : Nat} (hb : B ≤ b) (vs : List Value) (o : Nat) : Below B a (w.setCells b o vs) := by
  obtain ⟨h1, h2, h3⟩ := os_setCells b vs o w
  exact ⟨h1.trans h.os, h2.trans h.tape, h3.trans h.output, by rw [size_setCells]; exact h.size, fun k hk => (heap_setCells b vs o w k (by omega)).trans (h.block k hk)⟩
theorem there_of_row {w : World} {b : Nat} {cs : Array Value} {t : TypeId} (h : w.heap[b]? = some (.cells cs t (0, 0))) {o n : Nat} (hn : o + n ≤ cs.size) : w.there b o n := fun j hj => by
  refine ⟨?_, frozen_of_row w b _ cs t h⟩
  rw [cell_of_row w b (o + j) cs t (0, 0) h, Array.getElem?_eq_getElem (by omega)]
  rfl
theorem run_put {P : Program} {w : World} {b o : Nat} (n : Nd) (a : Option Addr) (l c : Nat) (h : w.there b o 14) : (storeCells ⟨b, o, none⟩ (exC n (.slice a l c)).toList).run P w = .ok () (w.setCells b o (exC n (.slice a l c)).toList) := by
  have := run_storeCells_cells (P := P) b o (exC n (.slice a l c)).toList 0 w (fun j hj => (h j (by rw [exC_len] at hj; exact hj)).1) (fun j hj => (h j (by rw [exC_len] at hj; exact hj)).2)
    (fun v hv => (Array.all_eq_true_iff_forall_mem.1 (exC_one n a l c)) v (by simpa using hv))
  exact this
theorem run_putnew (w : World) (n : Nd) (a : Option Addr) (l c : Nat) : (storeCells ⟨w.heap.size, 0, none⟩ (exC n (.slice a l c)).toList).run Tryz.prog (w.alloc (.cells #[.int .i64 0, .int .i64 0, .int .i64 0, .string { data := #[] }, .int .i64 0, .int .i64 0, .bool false, .bool false, .int .i64 0, .int .i64 0, .bool false, .bool false, .int .i64 0, .slice none 0 0] 30)) = .ok () (w.alloc (exO n (.slice a l c))) :=
  run_storeCells_new w 30 _ _ (exC_info _ _) (by rfl) (exC_one _ _ _ _)
theorem len_nodes : ∀ ks : List Ex, ks.length ≤ nodesL ks
  | [] => by simp [nodesL]
  | k :: r => by rw [nodesL]; have := len_nodes r; have := nodes_pos k; simp only [List.length_cons]; omega
theorem nodes_mem : ∀ {ks : List Ex} {k : Ex}, k ∈ ks → nodesE k ≤ nodesL ks
  | [], k, h => by cases h
  | x :: r, k, h => by
    rw [nodesL]
    rcases List.mem_cons.1 h with rfl | h
    · omega
    · have := nodes_mem h; omega
/-- What the going over leaves: the row, and the copies of the first ones. -/
structure CpSt (w : World) (R len : Nat) (ks : List Ex) (k : Nat) (wr : World) (bs : List Nat) : Prop where
  low : Below (w.heap.size) w wr
  row : ∃ cells, wr.heap[R]? = some (.cells cells 30 (0, 0)) ∧ cells.size = len * 14
  lt : R < wr.heap.size
  at' : w.heap.size ≤ R
  ow : OwL wr R 0 (ks.take k) bs
  nd : bs.Nodup
  new : ∀ x ∈ bs, R < x ∧ x < wr.heap.size
/-- One more kid is copied and stored. -/
theorem CpSt.step {w : World} {R len : Nat} {ks : List Ex} {k : Nat} {wr : World} {bs : List Nat} (h : CpSt w R len ks k wr bs) (hlen : len = ks.length) (hk : k < ks.length) (o : Obj) {w2 : World} {cs : Array Value} {bk : List Nat}
    (hN : New (wr.alloc o) w2 (.agg cs) ks[k] bk) (hb : Below (wr.alloc o).heap.size (wr.alloc o) w2) : CpSt w R len ks (k + 1) (w2.setCells R (k * 14) cs.toList) (bs ++ bk) := by
  obtain ⟨cells, hrow, hz⟩ := h.row
  have hal : (wr.alloc o).heap.size = wr.heap.size + 1 := by simp
  have hlow2 : Below (w.heap.size) w w2 := by
    have h1 := h.low.alloc (by have := h.lt; have := h.at'; omega) o
    exact h1.trans (hb.mono (by have := h.lt; have := h.at'; omega))
  have hkeep : ∀ x, x < wr.heap.size → w2.heap[x]? = wr.heap[x]? := fun x hx => (hb.block x (by omega)).trans (Below.heap_alloc wr o x hx)
  have hrow2 : w2.heap[R]? = some (.cells cells 30 (0, 0)) := (hkeep R h.lt).trans hrow
  obtain ⟨aa, ll, cc, rfl⟩ := hN.ow.cs
  have hth : w2.there R (k * 14) 14 := there_of_row hrow2 (by rw [hz, hlen]; omega)
  obtain ⟨cells', hr', hz'⟩ := row_setCells R 30 (exC ks[k].nd (.slice aa ll cc)).toList (k * 14) w2 cells hrow2
  have hsz := size_setCells R (exC ks[k].nd (.slice aa ll cc)).toList (k * 14) w2
  have hl2 : wr.heap.size + 1 ≤ w2.heap.size := by rw [← hal]; exact hb.size
  have hbk : ∀ x ∈ bk, wr.heap.size + 1 ≤ x ∧ x < w2.heap.size := fun x hx => by rw [← hal]; exact hN.at' x hx
  refine ⟨below_setCells hlow2 h.at' _ _, ⟨cells', hr', by rw [hz', hz]⟩, by rw [hsz]; have := h.lt; omega, h.at', ?_, ?_, ?_⟩
  · have ho : OwL w2 R 0 (ks.take k) bs := h.ow.move _ (fun x hx => hkeep x (h.new x hx).2) (fun j => World.cell?_of_block (hkeep R h.lt))
    have htk : (ks.take k).length = k := by simp; omega
    have ho' : OwL (w2.setCells R (k * 14) (exC ks[k].nd (.slice aa ll cc)).toList) R 0 (ks.take k) bs := ho.move' _ (fun x hx => heap_setCells R _ _ w2 x (by have := (h.new x hx).1; omega)) (fun j v hj hv => by
      rw [World.cell?_setCells_out R _ _ w2 ⟨R, j, none⟩ (fun _ _ => .inl (by show j < k * 14; rw [htk] at hj; omega))]
      exact hv)
    rw [List.take_succ_eq_append_getElem hk]
    refine OwL.snoc _ ho' (hN.ow.move _ (fun x hx => heap_setCells R _ _ w2 x (by have := (hbk x hx).1; have := h.lt; omega))) ?_
    rw [htk, Nat.zero_add]
    exact World.rangeAt_setCells_same w2 R (k * 14) _ (by rw [exC_len]; exact hth)
  · exact List.nodup_append.2 ⟨h.nd, hN.nd, fun x hx y hy e => by have := (h.new x hx).2; have := (hbk y hy).1; omega⟩
  · intro x hx
    rw [hsz]
    rcases List.mem_append.1 hx with hx | hx
    · have := h.new x hx; omega
    · have := hbk x hx; have := h.lt; omega
theorem CpSt.thereR {w : World} {R len : Nat} {ks : List Ex} {k : Nat} {wr : World} {bs : List Nat} (h : CpSt w R len ks k wr bs) (hk : k < len) (o : Obj) {w2 : World} (hb : Below (wr.alloc o).heap.size (wr.alloc o) w2) : w2.there R (k * 14) 14 := by
  obtain ⟨cells, hrow, hz⟩ := h.row
  have hlt := h.lt
  exact there_of_row (((hb.block R (by simp; omega)).trans (Below.heap_alloc wr o R hlt)).trans hrow) (by rw [hz]; omega)
theorem cp_start {w2 w1 : World} {len : Nat} {ks : List Ex} {xs : List Value} (ho : w1.ownsRow w2.heap.size 30 14 (.slice (some ⟨w2.heap.size, 0, none⟩) len len) len xs) (hg : w2.grownBy w1 none) (hpos : 0 < len) : CpSt w2 w2.heap.size len ks 0 w1 [] := by
  rcases ho.2 with ⟨h, _⟩ | ⟨g, cap, cur, hv, _, hr, _, _, hz, _⟩
  · cases h
  · simp only [Value.slice.injEq, Option.some.injEq, Addr.mk.injEq, true_and] at hv
    obtain ⟨⟨rfl, _⟩, rfl⟩ := hv
    refine ⟨⟨hg.os, hg.tape, hg.output, hg.size, fun k hk => hg.block k hk (by simp)⟩, ⟨cur, hr, hz⟩, (Array.getElem?_eq_some_iff.1 hr).1, Nat.le_refl _, ?_, List.nodup_nil, fun x hx => by cases hx⟩
    rw [List.take_zero]
    unfold OwL
    rfl
/-- What the closure answers. -/
def CpP (w : World) (t : Ex) (e : Ending) (w' : World) : Prop := ∃ a len cap bs, e = .returned (exV t.nd (.slice a len cap)) ∧ New w w' (exV t.nd (.slice a len cap)) t bs ∧ Below w.heap.size w w'
theorem info_ex : (Tryz.prog.info? 30).map (fun i => (i.zero, i.size, i.bytes)) = some (some (exV ⟨0, 0, 0, no, ⟨0, 0, false, false⟩, ⟨0, 0, false, false⟩, 0⟩ (.slice none 0 0)), 14, 120) := by kernel_rfl
abbrev nd0 : Nd := ⟨0, 0, 0, no, ⟨0, 0, false, false⟩, ⟨0, 0, false, false⟩, 0⟩
/-- The copy's root is written, and handed back. -/
theorem cp_fin {w wr : World} {nd : Nd} {ks : List Ex} {sl sl' : Value} {z : Array Value} {bs : List Nat} (hb : Below w.heap.size w wr) (h0 : Blk wr w.heap.size (exC nd sl) 30) (h1 : Blk wr (w.heap.size + 1) z 30)
    (hN : New w wr (exV nd sl') (.mk nd ks) bs) (hne : ∀ k ∈ bs, w.heap.size + 1 < k) :
    Blk (wr.setCell ⟨w.heap.size, 13, none⟩ sl') w.heap.size (exC nd sl') 30 ∧ Blk (wr.setCell ⟨w.heap.size, 13, none⟩ sl') (w.heap.size + 1) z 30 ∧
    Blk ((wr.setCell ⟨w.heap.size, 13, none⟩ sl').setRow (w.heap.size + 1) (exC nd sl')) (w.heap.size + 1) (exC nd sl') 30 ∧
    New w ((wr.setCell ⟨w.heap.size, 13, none⟩ sl').setRow (w.heap.size + 1) (exC nd sl')) (exV nd sl') (.mk nd ks) bs ∧ Below w.heap.size w ((wr.setCell ⟨w.heap.size, 13, none⟩ sl').setRow (w.heap.size + 1) (exC nd sl')) := by
  have b0 : Blk (wr.setCell ⟨w.heap.size, 13, none⟩ sl') w.heap.size (exC nd sl') 30 := h0.set 13 sl'
  have b1 : Blk (wr.setCell ⟨w.heap.size, 13, none⟩ sl') (w.heap.size + 1) z 30 := (Below.heap_setCell _ _ _ _ (by simp)).trans h1
  have hsame : ∀ k, k ≠ w.heap.size → k ≠ w.heap.size + 1 → ((wr.setCell ⟨w.heap.size, 13, none⟩ sl').setRow (w.heap.size + 1) (exC nd sl')).heap[k]? = wr.heap[k]? := fun k h1 h2 => (setRow_other _ _ _ _ h2).trans (Below.heap_setCell _ _ _ _ h1)
  have hsz : ((wr.setCell ⟨w.heap.size, 13, none⟩ sl').setRow (w.heap.size + 1) (exC nd sl')).heap.size = wr.heap.size := by simp
  refine ⟨b0, b1, setRow_heap _ _ _ _ _ _ b1, ⟨hN.ow.move _ (fun k hk => hsame k (by have := hne k hk; omega) (by have := hne k hk; omega)), hN.nd, fun k hk => by rw [hsz]; exact hN.at' k hk⟩, ⟨hb.os, hb.tape, hb.output, by rw [hsz]; exact hb.size, fun k hk => (hsame k (by omega) (by omega)).trans (hb.block k hk)⟩⟩
end Go.Proofs.YtdlomdbmmhjppaaGreatDoor.T9
namespace Go.Proofs.YtdlomdbmmhjppaaGreatDoor.T9
open Go.RowKit Go.Sort
set_option linter.unusedVariables false

theorem meas_lt {len k : Nat} (h : k < len) : len - (intOf (.int .i64 ((k : Int) + 1))).toNat < len - (intOf (.int .i64 (k : Int))).toNat := by
  show len - ((k : Int) + 1).toNat < len - (k : Int).toNat
  omega
theorem zero_both {T R : Nat} (h : T + R ≤ 0) : T = 0 ∧ R = 0 := by omega
theorem zero_right {T R : Nat} (h : T + R ≤ T) : R = 0 := by omega
theorem zero_le_sum (T R : Nat) : (0 : Int) ≤ (T : Int) + (R : Int) := by omega
theorem le_sum (T R : Nat) : (T : Int) ≤ (T : Int) + (R : Int) := by omega
theorem nodesL_snoc : ∀ (l : List Ex) (x : Ex), nodesL (l ++ [x]) = nodesL l + nodesE x
  | [], x => by simp [nodesL]
  | k :: r, x => by rw [List.cons_append, nodesL, nodesL, nodesL_snoc r x]; omega
theorem bytesL_snoc : ∀ (l : List Ex) (x : Ex), bytesL (l ++ [x]) = bytesL l + bytesE x
  | [], x => by simp [bytesL]
  | k :: r, x => by rw [List.cons_append, bytesL, bytesL, bytesL_snoc r x]; omega
theorem depthL_snoc : ∀ (l : List Ex) (x : Ex), depthL (l ++ [x]) = max (depthL l) (depthE x)
  | [], x => by simp [depthL]
  | k :: r, x => by rw [List.cons_append, depthL, depthL, depthL_snoc r x]; omega
theorem bytes_mem : ∀ {ks : List Ex} {k : Ex}, k ∈ ks → bytesE k ≤ bytesL ks
  | [], k, h => by cases h
  | x :: r, k, h => by
    rw [bytesL]
    rcases List.mem_cons.1 h with rfl | h
    · omega
    · have := bytes_mem h; omega
theorem all_kid : ∀ {ks : List Ex} {k : Ex}, allL ks = true → k ∈ ks → allE k = true
  | [], k, _, h => by cases h
  | x :: r, k, ha, h => by
    rw [allL, Bool.and_eq_true] at ha
    rcases List.mem_cons.1 h with rfl | h
    · exact ha.1
    · exact all_kid ha.2 h
theorem fit_kid {nd : Nd} {ks : List Ex} {k : Ex} (h : fitB (.mk nd ks) = true) (hk : k ∈ ks) : fitB k = true := by
  have h := of_decide_eq_true h
  rw [nodesE, depthE, bytesE] at h
  have h1 := nodes_mem hk
  have h2 := depth_mem hk
  have h3 := bytes_mem hk
  exact decide_eq_true ⟨by omega, by omega, by omega⟩
theorem sizeR_fit {t : Ex} (h : fitB t = true) : sizeR t = ((nodesE t : Int), (depthE t : Int), (bytesE t : Int)) := by unfold sizeR; rw [h]; rfl
theorem sizeR_no {t : Ex} (h : fitB t = false) : sizeR t = (513, 65, 16385) := by unfold sizeR; rw [h]; rfl
theorem mayR_no {t : Ex} (h : fitB t = false) : mayR t = 2 := by unfold mayR; rw [h]; rfl
theorem mayR_two {t : Ex} (h : fitB t = true) (h2 : allE t = false) : mayR t = 22 := by unfold mayR; rw [h, h2]; rfl
theorem mayR_ok {t : Ex} (h : fitB t = true) (h2 : allE t = true) : mayR t = 0 := by unfold mayR; rw [h, h2]; rfl
theorem leaf_tree (w : World) (n : Nd) (h : n.text.size ≤ 4611686018427387904) : Tree w (exV n (.slice none 0 0)) (.mk n []) := by
  unfold Tree In
  exact ⟨none, 0, 0, rfl, rfl, by omega, h, .inl rfl⟩
theorem leaf_in (m : Nat → Prop) (w : World) (n : Nd) (h : n.text.size ≤ 4611686018427387904) : In m w (exV n (.slice none 0 0)) (.mk n []) := by
  unfold In
  exact ⟨none, 0, 0, rfl, rfl, by omega, h, .inl rfl⟩
end Go.Proofs.YtdlomdbmmhjppaaGreatDoor.T9
namespace Go.Proofs.YtdlomdbmmhjppaaGreatDoor.T9
open Go.RowKit Go.Sort
set_option linter.unusedVariables false

theorem sameE_no {n1 n2 : Nd} {ks ls : List Ex} (h : ndB n1 n2 = false ∨ ks.length ≠ ls.length) : sameE (.mk n1 ks) (.mk n2 ls) = false := by
  rw [sameE]
  rcases h with h | h
  · show (ndB n1 n2 && _) = false; rw [h]; rfl
  · show (_ && sameL ks ls) = false; rw [sameL_len _ _ h, Bool.and_false]
theorem range14 {w : World} {b o : Nat} {n : Nd} {s : Value} (h : w.rangeAt b o (exC n s).toList) :
    w.cell? ⟨b, o, none⟩ = some (.int .i64 n.kind) ∧ w.cell? ⟨b, o + 1, none⟩ = some (.int .i64 n.op) ∧ w.cell? ⟨b, o + 2, none⟩ = some (.int .i64 n.num) ∧ w.cell? ⟨b, o + 3, none⟩ = some (.string n.text) ∧ w.cell? ⟨b, o + 4, none⟩ = some (.int .i64 n.ref.row) ∧ w.cell? ⟨b, o + 5, none⟩ = some (.int .i64 n.ref.col) ∧ w.cell? ⟨b, o + 6, none⟩ = some (.bool n.ref.pr) ∧ w.cell? ⟨b, o + 7, none⟩ = some (.bool n.ref.pc) ∧
    w.cell? ⟨b, o + 8, none⟩ = some (.int .i64 n.to.row) ∧ w.cell? ⟨b, o + 9, none⟩ = some (.int .i64 n.to.col) ∧ w.cell? ⟨b, o + 10, none⟩ = some (.bool n.to.pr) ∧ w.cell? ⟨b, o + 11, none⟩ = some (.bool n.to.pc) ∧ w.cell? ⟨b, o + 12, none⟩ = some (.int .i64 n.fn) ∧ w.cell? ⟨b, o + 13, none⟩ = some s :=
  ⟨h 0 _ rfl, h 1 _ rfl, h 2 _ rfl, h 3 _ rfl, h 4 _ rfl, h 5 _ rfl, h 6 _ rfl, h 7 _ rfl, h 8 _ rfl, h 9 _ rfl, h 10 _ rfl, h 11 _ rfl, h 12 _ rfl, h 13 _ rfl⟩
abbrev lit14 (n : Nd) (s : Value) : Value := .agg #[.int .i64 n.kind, .int .i64 n.op, .int .i64 n.num, .string n.text, .int .i64 n.ref.row, .int .i64 n.ref.col, .bool n.ref.pr, .bool n.ref.pc, .int .i64 n.to.row, .int .i64 n.to.col, .bool n.to.pr, .bool n.to.pc, .int .i64 n.fn, s]
theorem nd_eq {n1 n2 : Nd} (h0 : n1.kind = n2.kind) (h1 : n1.op = n2.op) (h2 : n1.num = n2.num) (h3 : n1.text = n2.text) (h4 : n1.ref.row = n2.ref.row) (h5 : n1.ref.col = n2.ref.col) (h6 : n1.ref.pr = n2.ref.pr) (h7 : n1.ref.pc = n2.ref.pc) (h8 : n1.to.row = n2.to.row) (h9 : n1.to.col = n2.to.col) (h10 : n1.to.pr = n2.to.pr) (h11 : n1.to.pc = n2.to.pc) (h12 : n1.fn = n2.fn) : n1 = n2 := by
  obtain ⟨k, o, n, t, ⟨a, b, c, d⟩, ⟨e, f, g, h⟩, i⟩ := n1
  obtain ⟨k', o', n', t', ⟨a', b', c', d'⟩, ⟨e', f', g', h'⟩, i'⟩ := n2
  simp only at h0 h1 h2 h3 h4 h5 h6 h7 h8 h9 h10 h11 h12
  subst h0 h1 h2 h3 h4 h5 h6 h7 h8 h9 h10 h11 h12
  rfl
theorem ndB_self (n : Nd) : ndB n n = true := by simp [ndB, rfB]
end Go.Proofs.YtdlomdbmmhjppaaGreatDoor.T9
