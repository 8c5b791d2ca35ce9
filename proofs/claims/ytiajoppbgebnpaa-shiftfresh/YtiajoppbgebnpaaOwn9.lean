/- Trees of one's own: every list in a block that nothing else holds, told by the list of these blocks. -/
import Derived.Test.YtiajoppbgebnpaaKit9b
namespace Go.Proofs.Ytiajoppbgebnpaa
open Go.RowKit Go.Sort
set_option linter.unusedVariables false

mutual
/-- The tree lies in memory; the blocks of its lists, each one whole. -/
def Ow (w : World) (v : Value) : Ex → List Nat → Prop
  | .mk nd ks, bs => ∃ a len cap, v = exV nd (.slice a len cap) ∧ len = ks.length ∧ ((a = none ∧ len = 0 ∧ cap = 0 ∧ bs = []) ∨ ∃ b cells bs', a = some ⟨b, 0, none⟩ ∧ bs = b :: bs' ∧ w.heap[b]? = some (.cells cells 37 (0, 0)) ∧ cells.size = cap * 14 ∧ (len ≤ cap ∧ cap ≤ maxLen) ∧ OwL w b 0 ks bs')
def OwL (w : World) (b o : Nat) : List Ex → List Nat → Prop
  | [], bs => bs = []
  | k :: r, bs => ∃ cs b1 b2, bs = b1 ++ b2 ∧ Ow w (.agg cs) k b1 ∧ w.rangeAt b o cs.toList ∧ OwL w b (o + 14) r b2
end
mutual
/-- No text and no list is longer than any may be. -/
def SmE : Ex → Prop | .mk nd ks => nd.text.size ≤ 4611686018427387904 ∧ ks.length ≤ 4611686018427387904 ∧ SmL ks
def SmL : List Ex → Prop | [] => True | k :: r => SmE k ∧ SmL r
end
theorem SmL_of : ∀ {ks : List Ex}, (∀ k ∈ ks, SmE k) → SmL ks
  | [], _ => by unfold SmL; trivial
  | k :: r, h => by unfold SmL; exact ⟨h k (List.mem_cons_self ..), SmL_of fun x hx => h x (List.mem_cons_of_mem _ hx)⟩
theorem SmL.get : ∀ {ks : List Ex}, SmL ks → ∀ k ∈ ks, SmE k
  | [], _, k, hk => by cases hk
  | k :: r, h, x, hx => by
    unfold SmL at h
    rcases List.mem_cons.1 hx with rfl | hx
    · exact h.1
    · exact h.2.get x hx
theorem In.sm {m : Nat → Prop} {w : World} : ∀ (t : Ex) {v : Value}, In m w v t → SmE t := by
  refine Ex.ind fun nd ks ih => ?_
  intro v h
  unfold SmE
  obtain ⟨a, len, cap, _, hl, hs, ht, _⟩ := h.un
  refine ⟨ht.out, by have := hl.out; have := hs.out; omega, SmL_of fun k hk => ?_⟩
  obtain ⟨v', h'⟩ := h.kid k hk
  exact ih k hk h'
theorem Ow.un {w : World} {v : Value} {nd : Nd} {ks : List Ex} {bs : List Nat} (h : Ow w v (.mk nd ks) bs) : ∃ a len cap, v = exV nd (.slice a len cap) ∧ len = ks.length ∧ ((a = none ∧ len = 0 ∧ cap = 0 ∧ bs = []) ∨ ∃ b cells bs', a = some ⟨b, 0, none⟩ ∧ bs = b :: bs' ∧ w.heap[b]? = some (.cells cells 37 (0, 0)) ∧ cells.size = cap * 14 ∧ (len ≤ cap ∧ cap ≤ maxLen) ∧ OwL w b 0 ks bs') := by
  unfold Ow at h; exact h
theorem OwL.get {w : World} {b : Nat} : ∀ {ks : List Ex} {o : Nat} {bs : List Nat}, OwL w b o ks bs → ∀ i (hi : i < ks.length), ∃ cs b1, (∀ x ∈ b1, x ∈ bs) ∧ Ow w (.agg cs) ks[i] b1 ∧ w.rangeAt b (o + i * 14) cs.toList
  | [], _, _, _, i, hi => absurd hi (Nat.not_lt_zero i)
  | k :: r, o, bs, h, 0, _ => by
    unfold OwL at h
    obtain ⟨cs, b1, b2, rfl, h1, h2, _⟩ := h
    exact ⟨cs, b1, fun x hx => List.mem_append_left _ hx, h1, by simpa using h2⟩
  | k :: r, o, bs, h, i + 1, hi => by
    unfold OwL at h
    obtain ⟨cs, b1, b2, rfl, _, _, h3⟩ := h
    obtain ⟨cs', c1, hs, h1, h2⟩ := OwL.get h3 i (by simpa using hi)
    exact ⟨cs', c1, fun x hx => List.mem_append_right _ (hs x hx), by simpa only [List.getElem_cons_succ] using h1, by rw [show o + (i + 1) * 14 = o + 14 + i * 14 by omega]; exact h2⟩
theorem Ow.in' {w : World} {m : Nat → Prop} : ∀ (t : Ex) {v : Value} {bs : List Nat}, Ow w v t bs → (∀ k ∈ bs, m k) → SmE t → In m w v t := by
  refine Ex.ind fun nd ks ih => ?_
  intro v bs h hm hs
  unfold SmE at hs
  obtain ⟨a, len, cap, hv, hl, h⟩ := h.un
  unfold In
  refine ⟨a, len, cap, hv, hl, by omega, hs.1, ?_⟩
  rcases h with ⟨_, h, _⟩ | ⟨b, cells, bs', ha, hb, _, _, _, hk⟩
  · exact .inl h
  · refine .inr ⟨b, 0, ha, hm b (by rw [hb]; exact List.mem_cons_self ..), Kids.of fun i hi => ?_⟩
    obtain ⟨cs, b1, hsub, h1, h2⟩ := hk.get i hi
    exact ⟨cs, ih _ (List.getElem_mem hi) h1 (fun k hk => hm k (by rw [hb]; exact List.mem_cons_of_mem _ (hsub k hk))) (hs.2.2.get _ (List.getElem_mem hi)), h2⟩
mutual
/-- From world to world, where its blocks are the same. -/
theorem Ow.move {w w' : World} : ∀ (t : Ex) {v : Value} {bs : List Nat}, Ow w v t bs → (∀ k ∈ bs, w'.heap[k]? = w.heap[k]?) → Ow w' v t bs
  | .mk nd ks, v, bs, h, hm => by
    unfold Ow at h ⊢
    obtain ⟨a, len, cap, hv, hl, h⟩ := h
    refine ⟨a, len, cap, hv, hl, ?_⟩
    rcases h with h | ⟨b, cells, bs', ha, hb, hc, hz, hle, hk⟩
    · exact .inl h
    · subst hb
      exact .inr ⟨b, cells, bs', ha, rfl, (hm b (List.mem_cons_self ..)).trans hc, hz, hle, OwL.move ks hk (fun k hk => hm k (List.mem_cons_of_mem _ hk)) (fun j => World.cell?_of_block (hm b (List.mem_cons_self ..)))⟩
theorem OwL.move {w w' : World} {b : Nat} : ∀ (ks : List Ex) {o : Nat} {bs : List Nat}, OwL w b o ks bs → (∀ k ∈ bs, w'.heap[k]? = w.heap[k]?) → (∀ j, w'.cell? ⟨b, j, none⟩ = w.cell? ⟨b, j, none⟩) → OwL w' b o ks bs
  | [], o, bs, h, hm, hc => by unfold OwL at h ⊢; exact h
  | k :: r, o, bs, h, hm, hc => by
    unfold OwL at h ⊢
    obtain ⟨cs, b1, b2, rfl, h1, h2, h3⟩ := h
    exact ⟨cs, b1, b2, rfl, Ow.move k h1 (fun k hk => hm k (List.mem_append_left _ hk)), fun j v hv => (hc _).trans (h2 j v hv), OwL.move r h3 (fun k hk => hm k (List.mem_append_right _ hk)) hc⟩
end
/-- The same where the list's own block is written behind its elements. -/
theorem OwL.move' {w w' : World} {b : Nat} : ∀ (ks : List Ex) {o : Nat} {bs : List Nat}, OwL w b o ks bs → (∀ k ∈ bs, w'.heap[k]? = w.heap[k]?) → (∀ j v, j < o + ks.length * 14 → w.cell? ⟨b, j, none⟩ = some v → w'.cell? ⟨b, j, none⟩ = some v) → OwL w' b o ks bs
  | [], o, bs, h, hm, hc => by unfold OwL at h ⊢; exact h
  | k :: r, o, bs, h, hm, hc => by
    unfold OwL at h ⊢
    obtain ⟨cs, b1, b2, rfl, h1, h2, h3⟩ := h
    have hz : cs.toList.length = 14 := by
      obtain ⟨nd, ks⟩ := k
      obtain ⟨a, len, cap, hv, _⟩ := h1.un
      have : cs = exC nd (.slice a len cap) := by simpa [exV] using hv
      rw [this, exC_len]
    refine ⟨cs, b1, b2, rfl, Ow.move k h1 (fun k hk => hm k (List.mem_append_left _ hk)), fun j v hv => hc _ v ?_ (h2 j v hv), OwL.move' r h3 (fun k hk => hm k (List.mem_append_right _ hk)) (fun j v hj => hc j v (by simp only [List.length_cons]; omega))⟩
    have := (List.getElem?_eq_some_iff.1 hv).1
    simp only [List.length_cons]
    omega
theorem OwL.snoc {w : World} {b : Nat} : ∀ (ks : List Ex) {o : Nat} {bs : List Nat} {k : Ex} {cs : Array Value} {bk : List Nat}, OwL w b o ks bs → Ow w (.agg cs) k bk → w.rangeAt b (o + ks.length * 14) cs.toList → OwL w b o (ks ++ [k]) (bs ++ bk)
  | [], o, bs, k, cs, bk, h, hk, hr => by
    unfold OwL at h
    subst h
    show OwL w b o [k] bk
    unfold OwL
    exact ⟨cs, bk, [], by simp, hk, by simpa using hr, by unfold OwL; rfl⟩
  | x :: r, o, bs, k, cs, bk, h, hk, hr => by
    unfold OwL at h
    obtain ⟨cs', b1, b2, rfl, h1, h2, h3⟩ := h
    show OwL w b o (x :: (r ++ [k])) (b1 ++ b2 ++ bk)
    unfold OwL
    exact ⟨cs', b1, b2 ++ bk, by simp, h1, h2, OwL.snoc r h3 hk (by rw [show o + 14 + r.length * 14 = o + (x :: r).length * 14 by simp only [List.length_cons]; omega]; exact hr)⟩
theorem Ow.cs {w : World} {cs : Array Value} {t : Ex} {bs : List Nat} (h : Ow w (.agg cs) t bs) : ∃ a len cap, cs = exC t.nd (.slice a len cap) := by
  obtain ⟨nd, ks⟩ := t
  obtain ⟨a, len, cap, hv, _⟩ := h.un
  exact ⟨a, len, cap, by simpa [exV, Ex.nd] using hv⟩
theorem Ow.agg {w : World} {v : Value} {t : Ex} {bs : List Nat} (h : Ow w v t bs) : ∃ a len cap, v = exV t.nd (.slice a len cap) := by
  obtain ⟨nd, ks⟩ := t
  obtain ⟨a, len, cap, hv, _⟩ := h.un
  exact ⟨a, len, cap, hv⟩
/-- A new tree: its blocks are unlike and none was there. -/
structure New (w w' : World) (v : Value) (t : Ex) (bs : List Nat) : Prop where
  ow : Ow w' v t bs
  nd : bs.Nodup
  at' : ∀ k ∈ bs, w.heap.size ≤ k ∧ k < w'.heap.size
end Go.Proofs.Ytiajoppbgebnpaa
