/- Twins of trees: every list that is not nil in a block of its own, with a mark in the room behind it. quadrillelaw10.Twin and marks: what they answer. quadrillelaw10.marks and Kept: a twin that was left as it was. -/
import Derived.Test.YtiajoppbgebnpaaRoJ
import Derived.Test.YtiajoppbgebnpaaSz9
import Derived.Test.YtiajoppbgebnpaaBeJ
import Derived.Test.YtiajoppbgebnpaaLyJ
import Derived.Laws.Cover3
import Derived.Test.YtiajoppbgebnpaaEq12
namespace Go.Proofs.Ytiajoppbgebnpaa
open Go.RowKit Go.Sort
set_option linter.unusedVariables false

abbrev nd7z : Nd := ⟨-7, 0, 0, no, ⟨0, 0, false, false⟩, ⟨0, 0, false, false⟩, 0⟩
mutual
/-- The tree lies in memory as a twin; the blocks of its lists. -/
def Lw (w : World) (v : Value) : Ex → List Nat → Prop
  | .mk nd ks, bs => nd.text.size ≤ 4611686018427387904 ∧ ks.length ≤ 4000 ∧ ((ks = [] ∧ bs = [] ∧ ∃ cap, v = exV nd (.slice none 0 cap)) ∨ ∃ b cells bs', v = exV nd (.slice (some ⟨b, 0, none⟩) ks.length (ks.length + 1)) ∧ bs = b :: bs' ∧ w.heap[b]? = some (.cells cells 37 (0, 0)) ∧ cells.size = (ks.length + 1) * 14 ∧ w.rangeAt b (ks.length * 14) (exC nd7z (.slice none 0 0)).toList ∧ LwL w b 0 ks bs')
def LwL (w : World) (b o : Nat) : List Ex → List Nat → Prop
  | [], bs => bs = []
  | k :: r, bs => ∃ cs b1 b2, bs = b1 ++ b2 ∧ Lw w (.agg cs) k b1 ∧ w.rangeAt b o cs.toList ∧ LwL w b (o + 14) r b2
end
theorem Lw.un {w : World} {v : Value} {nd : Nd} {ks : List Ex} {bs : List Nat} (h : Lw w v (.mk nd ks) bs) : nd.text.size ≤ 4611686018427387904 ∧ ks.length ≤ 4000 ∧ ((ks = [] ∧ bs = [] ∧ ∃ cap, v = exV nd (.slice none 0 cap)) ∨ ∃ b cells bs', v = exV nd (.slice (some ⟨b, 0, none⟩) ks.length (ks.length + 1)) ∧ bs = b :: bs' ∧ w.heap[b]? = some (.cells cells 37 (0, 0)) ∧ cells.size = (ks.length + 1) * 14 ∧ w.rangeAt b (ks.length * 14) (exC nd7z (.slice none 0 0)).toList ∧ LwL w b 0 ks bs') := by
  unfold Lw at h; exact h
mutual
theorem Lw.move {w w' : World} : ∀ (t : Ex) {v : Value} {bs : List Nat}, Lw w v t bs → (∀ k ∈ bs, w'.heap[k]? = w.heap[k]?) → Lw w' v t bs
  | .mk nd ks, v, bs, h, hm => by
    unfold Lw at h ⊢
    obtain ⟨h1, h2, h | ⟨b, cells, bs', hv, rfl, hc, hz, hr, hk⟩⟩ := h
    · exact ⟨h1, h2, .inl h⟩
    have hb := hm b (List.mem_cons_self ..)
    exact ⟨h1, h2, .inr ⟨b, cells, bs', hv, rfl, hb.trans hc, hz, range_of_block hr hb, LwL.move ks hk (fun k hk => hm k (List.mem_cons_of_mem _ hk)) (fun j => World.cell?_of_block hb)⟩⟩
theorem LwL.move {w w' : World} {b : Nat} : ∀ (ks : List Ex) {o : Nat} {bs : List Nat}, LwL w b o ks bs → (∀ k ∈ bs, w'.heap[k]? = w.heap[k]?) → (∀ j, w'.cell? ⟨b, j, none⟩ = w.cell? ⟨b, j, none⟩) → LwL w' b o ks bs
  | [], o, bs, h, hm, hc => by unfold LwL at h ⊢; exact h
  | k :: r, o, bs, h, hm, hc => by
    unfold LwL at h ⊢
    obtain ⟨cs, b1, b2, rfl, h1, h2, h3⟩ := h
    exact ⟨cs, b1, b2, rfl, Lw.move k h1 (fun k hk => hm k (List.mem_append_left _ hk)), fun j v hv => (hc _).trans (h2 j v hv), LwL.move r h3 (fun k hk => hm k (List.mem_append_right _ hk)) hc⟩
end
mutual
theorem Lw.tree {w : World} : ∀ (t : Ex) {v : Value} {bs : List Nat}, Lw w v t bs → (∀ x ∈ bs, x < w.heap.size) → Tree w v t
  | .mk nd ks, v, bs, h, hl => by
    unfold Lw at h; unfold Tree In
    obtain ⟨h1, h2, ⟨rfl, _, cap, hv⟩ | ⟨b, cells, bs', hv, rfl, hc, hz, hr, hk⟩⟩ := h
    · exact ⟨none, 0, cap, hv, rfl, by decide, h1, .inl rfl⟩
    · exact ⟨_, _, _, hv, rfl, by omega, h1, .inr ⟨b, 0, rfl, hl b (List.mem_cons_self ..), LwL.kids ks hk (fun x hx => hl x (List.mem_cons_of_mem _ hx))⟩⟩
theorem LwL.kids {w : World} {b : Nat} : ∀ (ks : List Ex) {o : Nat} {bs : List Nat}, LwL w b o ks bs → (∀ x ∈ bs, x < w.heap.size) → Kids (· < w.heap.size) w b o ks
  | [], o, bs, h, hl => by unfold Kids; trivial
  | k :: r, o, bs, h, hl => by
    unfold LwL at h; unfold Kids
    obtain ⟨cs, b1, b2, rfl, h1, h2, h3⟩ := h
    exact ⟨⟨cs, Lw.tree k h1 (fun x hx => hl x (List.mem_append_left _ hx)), h2⟩, LwL.kids r h3 (fun x hx => hl x (List.mem_append_right _ hx))⟩
end
theorem LwL.get {w : World} {b : Nat} : ∀ {ks : List Ex} {o : Nat} {bs : List Nat}, LwL w b o ks bs → ∀ i (hi : i < ks.length), ∃ cs b1, (∀ x ∈ b1, x ∈ bs) ∧ Lw w (.agg cs) ks[i] b1 ∧ w.rangeAt b (o + i * 14) cs.toList
  | [], _, _, _, i, hi => absurd hi (Nat.not_lt_zero i)
  | k :: r, o, bs, h, 0, _ => by
    unfold LwL at h
    obtain ⟨cs, b1, b2, rfl, h1, h2, _⟩ := h
    exact ⟨cs, b1, fun x hx => List.mem_append_left _ hx, h1, by simpa using h2⟩
  | k :: r, o, bs, h, i + 1, hi => by
    unfold LwL at h
    obtain ⟨cs, b1, b2, rfl, _, _, h3⟩ := h
    obtain ⟨cs', c1, hs, h1, h2⟩ := LwL.get h3 i (by simpa using hi)
    exact ⟨cs', c1, fun x hx => List.mem_append_right _ (hs x hx), by simpa only [List.getElem_cons_succ] using h1, by rw [show o + (i + 1) * 14 = o + 14 + i * 14 by omega]; exact h2⟩
theorem Lw.lt {w : World} {v : Value} {t : Ex} {bs : List Nat} (h : Lw w v t bs) (hl : ∀ (x : Nat), x ∈ bs → x < w.heap.size) {w' : World} (hb : Below w.heap.size w w') : Lw w' v t bs := h.move _ (fun k hk => hb.block k (hl k hk))
theorem Lw.shape {w : World} {v : Value} {t : Ex} {bs : List Nat} (h : Lw w v t bs) : ∃ a cap, v = exV t.nd (.slice a t.kids.length cap) := by
  obtain ⟨nd, ks⟩ := t
  obtain ⟨_, _, ⟨rfl, _, cap, hv⟩ | ⟨b, cells, bs', hv, _⟩⟩ := h.un
  · exact ⟨none, cap, hv⟩
  · exact ⟨_, _, hv⟩
theorem Lw.cs {w : World} {cs : Array Value} {t : Ex} {bs : List Nat} (h : Lw w (.agg cs) t bs) : ∃ a len cap, cs = exC t.nd (.slice a len cap) := by
  obtain ⟨a, cap, h⟩ := h.shape
  exact ⟨a, _, cap, Value.agg.inj h⟩
/-- Laid trees behind their cells. -/
def LwK (w : World) : List (Array Value) → List Ex → List Nat → Prop
  | [], [], bs => bs = []
  | cs :: css, k :: r, bs => ∃ b1 b2, bs = b1 ++ b2 ∧ Lw w (.agg cs) k b1 ∧ LwK w css r b2
  | _, _, _ => False
theorem LwK.move {w w' : World} : ∀ {css : List (Array Value)} {ks : List Ex} {bs : List Nat}, LwK w css ks bs → (∀ k ∈ bs, w'.heap[k]? = w.heap[k]?) → LwK w' css ks bs
  | [], [], bs, h, hm => h
  | cs :: css, k :: r, bs, h, hm => by
    obtain ⟨b1, b2, rfl, h1, h2⟩ := h
    exact ⟨b1, b2, rfl, h1.move k (fun x hx => hm x (List.mem_append_left _ hx)), LwK.move h2 (fun x hx => hm x (List.mem_append_right _ hx))⟩
  | [], k :: r, bs, h, hm => h.elim
  | cs :: css, [], bs, h, hm => h.elim
theorem LwK.snoc {w : World} : ∀ {css : List (Array Value)} {ks : List Ex} {bs : List Nat} {cs : Array Value} {k : Ex} {bk : List Nat}, LwK w css ks bs → Lw w (.agg cs) k bk → LwK w (css ++ [cs]) (ks ++ [k]) (bs ++ bk)
  | [], [], bs, cs, k, bk, h, hk => by
    have : bs = [] := h
    subst this
    exact ⟨bk, [], by simp, hk, rfl⟩
  | c :: css, x :: r, bs, cs, k, bk, h, hk => by
    obtain ⟨b1, b2, rfl, h1, h2⟩ := h
    exact ⟨b1, b2 ++ bk, by simp, h1, LwK.snoc h2 hk⟩
  | [], x :: r, bs, cs, k, bk, h, hk => h.elim
  | c :: css, [], bs, cs, k, bk, h, hk => h.elim
theorem LwK.len {w : World} : ∀ {css : List (Array Value)} {ks : List Ex} {bs : List Nat}, LwK w css ks bs → css.length = ks.length ∧ ∀ cs ∈ css, cs.toList.length = 14
  | [], [], bs, h => ⟨rfl, fun cs hc => by cases hc⟩
  | c :: css, x :: r, bs, h => by
    obtain ⟨b1, b2, rfl, h1, h2⟩ := h
    obtain ⟨l1, l2⟩ := LwK.len h2
    refine ⟨by simp [l1], fun cs hc => ?_⟩
    rcases List.mem_cons.1 hc with rfl | hc
    · obtain ⟨a, l, cp, rfl⟩ := h1.cs
      exact exC_len _ _
    · exact l2 cs hc
  | [], x :: r, bs, h => h.elim
  | c :: css, [], bs, h => h.elim
theorem LwK.row {w : World} {g : Nat} : ∀ {css : List (Array Value)} {ks : List Ex} {bs : List Nat} {o : Nat}, LwK w css ks bs → (∀ j v, (flX css)[j]? = some v → w.cell? ⟨g, o + j, none⟩ = some v) → LwL w g o ks bs
  | [], [], bs, o, h, hc => by unfold LwL; exact h
  | c :: css, x :: r, bs, o, h, hc => by
    obtain ⟨b1, b2, rfl, h1, h2⟩ := h
    have hl : c.toList.length = 14 := by obtain ⟨a, l, cp, rfl⟩ := h1.cs; exact exC_len _ _
    have hf : flX (c :: css) = c.toList ++ flX css := rfl
    unfold LwL
    refine ⟨c, b1, b2, rfl, h1, fun j v hv => hc j v ?_, LwK.row h2 (fun j v hv => ?_)⟩
    · rw [hf, List.getElem?_append_left (List.getElem?_eq_some_iff.1 hv).1]; exact hv
    · have := hc (14 + j) v (by rw [hf, List.getElem?_append_right (by omega), show 14 + j - c.toList.length = j by omega]; exact hv)
      rwa [show o + (14 + j) = o + 14 + j by omega] at this
  | [], x :: r, bs, o, h, hc => h.elim
  | c :: css, [], bs, o, h, hc => h.elim
theorem flW_len {w : World} {css : List (Array Value)} {ks : List Ex} {bs : List Nat} (h : LwK w css ks bs) : (flX css).length = css.length * 14 := by
  have := h.len.2
  clear h
  induction css with
  | nil => rfl
  | cons c r ih => simp only [flX, List.flatMap_cons, List.length_append, List.length_cons] at ih ⊢; have h1 := this c (List.mem_cons_self ..); have h2 := ih (fun x hx => this x (List.mem_cons_of_mem _ hx)); omega
/-- While the kids are laid. -/
structure LwSt (w1 : World) (g cap : Nat) (ks : List Ex) (k : Nat) (wr : World) (css : List (Array Value)) (bs : List Nat) : Prop where
  low : Below w1.heap.size w1 wr
  row : wr.ownsRow w1.heap.size 37 14 (.slice (some ⟨g, 0, none⟩) k cap) k (flX css)
  kids : LwK wr css (ks.take k) bs
  nd : bs.Nodup
  new : ∀ x ∈ bs, w1.heap.size ≤ x ∧ x < wr.heap.size ∧ x ≠ g
theorem LwSt.at' {w1 : World} {g cap : Nat} {ks : List Ex} {k : Nat} {wr : World} {css : List (Array Value)} {bs : List Nat} (h : LwSt w1 g cap ks k wr css bs) : w1.heap.size ≤ g ∧ g < wr.heap.size := owns_lt h.row g rfl
theorem LwSt.more {w1 : World} {g cap : Nat} {ks : List Ex} {k : Nat} {wr : World} {css : List (Array Value)} {bs : List Nat} (h : LwSt w1 g cap ks k wr css bs) (hk : k < ks.length) {w2 w3 : World} {n : Nd} {s : Value} {bk : List Nat}
    (hN : Lw w2 (exV n s) ks[k] bk) (hNd : bk.Nodup) (hNa : ∀ x ∈ bk, wr.heap.size ≤ x ∧ x < w2.heap.size) (hb : Below wr.heap.size wr w2) (hr : w3.ownsRow w1.heap.size 37 14 (.slice (some ⟨g, 0, none⟩) (k + 1) cap) (k + 1) (flX css ++ (exC n s).toList)) (hg : (w2.alloc (exO n s)).grownBy w3 (some g)) :
    LwSt w1 g cap ks (k + 1) w3 (css ++ [exC n s]) (bs ++ bk) := by
  have hal : (w2.alloc (exO n s)).heap.size = w2.heap.size + 1 := by simp
  have hs2 := hb.size
  have hs3 := hg.size
  obtain ⟨hg1, hg2⟩ := h.at'
  have hkeep : ∀ x, x < w2.heap.size → x ≠ g → w3.heap[x]? = w2.heap[x]? := fun x hx hne => (hg.block x (by omega) (fun e => hne (by cases e; rfl))).trans (Below.heap_alloc w2 _ x hx)
  refine ⟨?_, by rw [flX_snoc]; exact hr, ?_, ?_, ?_⟩
  · have h1 : Below w1.heap.size w1 w2 := h.low.trans (hb.mono h.low.size)
    exact ⟨hg.os.trans h1.os, hg.tape.trans h1.tape, hg.output.trans h1.output, by have := h1.size; omega, fun x hx => (hkeep x (by have := h1.size; omega) (by omega)).trans (h1.block x hx)⟩
  · rw [List.take_succ_eq_append_getElem hk]
    refine LwK.snoc (h.kids.move (fun x hx => ?_)) (hN.move _ (fun x hx => hkeep x (hNa x hx).2 (by have := (hNa x hx).1; omega)))
    have := h.new x hx
    exact (hkeep x (by omega) this.2.2).trans (hb.block x this.2.1)
  · exact List.nodup_append.2 ⟨h.nd, hNd, fun x hx y hy e => by have := (h.new x hx).2.1; have := (hNa y hy).1; omega⟩
  · intro x hx
    rcases List.mem_append.1 hx with hx | hx
    · have := h.new x hx; exact ⟨this.1, by omega, this.2.2⟩
    · have q := hNa x hx; have := h.low.size; exact ⟨by omega, by omega, by omega⟩
/-- The mark is laid: the tree stands. -/
theorem LwSt.fin {w1 : World} {g : Nat} {nd : Nd} {ks : List Ex} {wr w3 : World} {css : List (Array Value)} {bs : List Nat} (hT1 : nd.text.size ≤ 4611686018427387904) (hT2 : ks.length ≤ 4000) (h : LwSt w1 g (ks.length + 1) ks ks.length wr css bs)
    (hr : w3.ownsRow w1.heap.size 37 14 (.slice (some ⟨g, 0, none⟩) (ks.length + 1) (ks.length + 1)) (ks.length + 1) (flX css ++ (exC nd7z (.slice none 0 0)).toList)) (hg : (wr.alloc (exO nd7z (.slice none 0 0))).grownBy w3 (some g)) :
    Lw w3 (exV nd (.slice (some ⟨g, 0, none⟩) ks.length (ks.length + 1))) (.mk nd ks) (g :: bs) ∧ (g :: bs).Nodup ∧ (∀ x ∈ g :: bs, w1.heap.size ≤ x ∧ x < w3.heap.size) ∧ Below w1.heap.size w1 w3 := by
  have hs3 := hg.size
  have hal : (wr.alloc (exO nd7z (.slice none 0 0))).heap.size = wr.heap.size + 1 := by simp
  obtain ⟨hg1, hg2⟩ := h.at'
  have hkeep : ∀ x, x < wr.heap.size → x ≠ g → w3.heap[x]? = wr.heap[x]? := fun x hx hne => (hg.block x (by omega) (fun e => hne (by cases e; rfl))).trans (Below.heap_alloc wr _ x hx)
  have hk := h.kids
  rw [List.take_length] at hk
  have hfl := flW_len hk
  have hcl := hk.len.1
  rcases hr.2 with ⟨e, _⟩ | ⟨g', cap', cur, e, _, hcur, hle, hmx, hcs, htk⟩
  · cases e
  · cases e
    have hall : cur.toList = flX css ++ (exC nd7z (.slice none 0 0)).toList := by rw [← htk, List.take_of_length_le (by rw [Array.length_toList, hcs]; omega)]
    refine ⟨?_, List.nodup_cons.2 ⟨fun hx => (h.new g hx).2.2 rfl, h.nd⟩, fun x hx => ?_, ?_⟩
    · unfold Lw
      refine ⟨hT1, hT2, .inr ⟨g, cur, bs, rfl, rfl, hcur, hcs, fun j v hv => ?_, ?_⟩⟩
      · rw [cell_of_row w3 g _ cur _ _ hcur, ← Array.getElem?_toList, hall, List.getElem?_append_right (by rw [hfl, hcl]; omega), hfl, hcl, show ks.length * 14 + j - ks.length * 14 = j by omega]
        exact hv
      · refine (hk.move (fun x hx => hkeep x (h.new x hx).2.1 (h.new x hx).2.2)).row (fun j v hv => ?_)
        rw [Nat.zero_add, cell_of_row w3 g _ cur _ _ hcur, ← Array.getElem?_toList, hall, List.getElem?_append_left (List.getElem?_eq_some_iff.1 hv).1]
        exact hv
    · rcases List.mem_cons.1 hx with rfl | hx
      · exact ⟨hg1, by omega⟩
      · have := h.new x hx; exact ⟨this.1, by omega⟩
    · exact ⟨hg.os.trans h.low.os, hg.tape.trans h.low.tape, hg.output.trans h.low.output, by have := h.low.size; omega, fun x hx => (hkeep x (by have := h.low.size; omega) (by omega)).trans (h.low.block x hx)⟩
end Go.Proofs.Ytiajoppbgebnpaa
namespace Go.Proofs.Ytiajoppbgebnpaa
open Go.RowKit Go.Sort
set_option linter.unusedVariables false

theorem slice_nil (a : Option Addr) (l c : Nat) (w : World) : (binOp .eql 30 (.slice a l c) (.slice none 0 0)).run Try.prog w = .ok (.bool a.isNone) w := by
  have h := run_equal_slice_nil (P := Try.prog) w 30 37 a l c Try.underlying30
  simp [binOp, h]
/-- What Twin answers. -/
def TwP (w : World) (t : Ex) (e : Ending) (w' : World) : Prop := ∃ a cap bs, e = .returned (exV t.nd (.slice a t.kids.length cap)) ∧ Lw w' (exV t.nd (.slice a t.kids.length cap)) t bs ∧ bs.Nodup ∧ (∀ k ∈ bs, w.heap.size ≤ k ∧ k < w'.heap.size) ∧ Below w.heap.size w w'
abbrev TwinIs (t : Ex) : Prop := ∀ (v : Value) (w : World), Tree w v t → nodesE t ≤ 2000 → Calls Try.prog 6 #[v] w fun e w' => TwP w t e w'
set_option maxHeartbeats 2000000 in
set_option maxRecDepth 100000 in
theorem twin_nil (nd : Nd) (cap : Nat) (w : World) (ht : nd.text.size ≤ 4611686018427387904) : Calls Try.prog 6 #[exV nd (.slice none 0 cap)] w fun e w' => TwP w (.mk nd []) e w' := by
  have c13 := (at14 nd (.slice none 0 cap)).c13
  have hB2 := hide (step (step (Below.refl w.heap.size w) (exO nd (.slice none 0 cap))) (exO nd0 (.slice none 0 0)))
  have P0 := hide ((Blk.new w (exC nd (.slice none 0 cap)) 37).alloc (exO nd0 (.slice none 0 0)))
  have P1 := hide (Blk.new1 w (exO nd (.slice none 0 cap)) (exC nd0 (.slice none 0 0)) 37)
  obtain ⟨w1, hw1⟩ : ∃ w1, ((w.alloc (.cells (exC nd (.slice none 0 cap)) 37)).alloc (.cells #[.int .i64 0, .int .i64 0, .int .i64 0, .string { data := #[] }, .int .i64 0, .int .i64 0, .bool false, .bool false, .int .i64 0, .int .i64 0, .bool false, .bool false, .int .i64 0, .slice none 0 0] 37)) = w1 := ⟨_, rfl⟩
  have Q0 : Blk w1 w.heap.size (exC nd (.slice none 0 cap)) 37 := by rw [← hw1]; exact P0.out
  have Q1 : Blk w1 (w.heap.size + 1) (exC nd0 (.slice none 0 0)) 37 := by rw [← hw1]; exact P1.out
  have Q2 : Hid (Below w.heap.size w w1) := hide (by rw [← hw1]; exact hB2.out)
  have q13 := (Q0.at' 13).trans c13
  have hnil := fun w => slice_nil none 0 cap w
  clear P0 P1 hB2
  go_enter Try.func6, Try.ntmps6
  go_wp2_with (first
    | (refine wpList_load_blk rfl 37 _ rfl _ rfl _ (by with_reducible exact Q0) _ Try.underlying37 rfl (exC_info _ _) ?_)
    | (refine wpList_store_row rfl 37 _ _ rfl _ (exC nd (.slice none 0 cap)) rfl rfl 37 _ Q1 (exC_info _ _) (by rfl) (exC_one _ _ _ _) ?_))
  refine bodyPost_ret (v := exV nd (.slice none 0 cap)) (results_cell_row Try.results6 _ _ (w.heap.size + 1) 37 (exC nd (.slice none 0 cap)) (0, 0) _ rfl (setRow_heap _ _ _ _ _ _ Q1) Try.underlying37 rfl (exC_info _ _)) rfl ?_
  refine ⟨none, cap, [], rfl, ?_, List.nodup_nil, (fun x hx => by cases hx), ?_⟩
  · unfold Lw
    exact ⟨ht, by decide, .inl ⟨rfl, rfl, cap, rfl⟩⟩
  · exact ⟨Q2.out.os, Q2.out.tape, Q2.out.output, by simpa using Q2.out.size, fun k hk => (setRow_other _ _ _ _ (by omega)).trans (Q2.out.block k hk)⟩
theorem tw_fin {w wr : World} {nd : Nd} {sl sl' : Value} {z : Array Value} {bs : List Nat} {B : Nat} (hb : Below w.heap.size w wr) (h0 : Blk wr w.heap.size (exC nd sl) 37) (h1 : Blk wr (w.heap.size + 1) z 37)
    (hne : ∀ k ∈ bs, w.heap.size + 1 < k) (hNa : ∀ k ∈ bs, B ≤ k ∧ k < wr.heap.size) :
    Blk (wr.setCell ⟨w.heap.size, 13, none⟩ sl') w.heap.size (exC nd sl') 37 ∧ Blk (wr.setCell ⟨w.heap.size, 13, none⟩ sl') (w.heap.size + 1) z 37 ∧
    Blk ((wr.setCell ⟨w.heap.size, 13, none⟩ sl').setRow (w.heap.size + 1) (exC nd sl')) (w.heap.size + 1) (exC nd sl') 37 ∧
    (∀ k ∈ bs, ((wr.setCell ⟨w.heap.size, 13, none⟩ sl').setRow (w.heap.size + 1) (exC nd sl')).heap[k]? = wr.heap[k]?) ∧ Below w.heap.size w ((wr.setCell ⟨w.heap.size, 13, none⟩ sl').setRow (w.heap.size + 1) (exC nd sl')) := by
  have b0 : Blk (wr.setCell ⟨w.heap.size, 13, none⟩ sl') w.heap.size (exC nd sl') 37 := h0.set 13 sl'
  have b1 : Blk (wr.setCell ⟨w.heap.size, 13, none⟩ sl') (w.heap.size + 1) z 37 := (Below.heap_setCell _ _ _ _ (by simp)).trans h1
  have hsame : ∀ k, k ≠ w.heap.size → k ≠ w.heap.size + 1 → ((wr.setCell ⟨w.heap.size, 13, none⟩ sl').setRow (w.heap.size + 1) (exC nd sl')).heap[k]? = wr.heap[k]? := fun k h1 h2 => (setRow_other _ _ _ _ h2).trans (Below.heap_setCell _ _ _ _ h1)
  have hsz : ((wr.setCell ⟨w.heap.size, 13, none⟩ sl').setRow (w.heap.size + 1) (exC nd sl')).heap.size = wr.heap.size := by simp
  refine ⟨b0, b1, setRow_heap _ _ _ _ _ _ b1, fun k hk => hsame k (by have := hne k hk; omega) (by have := hne k hk; omega), ⟨hb.os, hb.tape, hb.output, by rw [hsz]; exact hb.size, fun k hk => (hsame k (by omega) (by omega)).trans (hb.block k hk)⟩⟩
theorem tw_at {w0 wr : World} {nd : Nd} {sl' : Value} {bs : List Nat} {B : Nat} (hne : ∀ k ∈ bs, w0.heap.size + 1 < k) (hNa : ∀ k ∈ bs, B ≤ k ∧ k < wr.heap.size) : ∀ k ∈ bs, w0.heap.size ≤ k ∧ k < ((wr.setCell ⟨w0.heap.size, 13, none⟩ sl').setRow (w0.heap.size + 1) (exC nd sl')).heap.size := fun k hk => by
  have h1 := hne k hk
  have h2 := (hNa k hk).2
  exact ⟨by omega, by simpa using h2⟩
set_option maxHeartbeats 2000000 in
set_option maxRecDepth 100000 in
theorem twin_some (nd : Nd) (ks : List Ex) (ih : ∀ k ∈ ks, TwinIs k) (a : Option Addr) (ha : a.isNone = false) (cap : Nat) (w : World) (ht : Tree w (exV nd (.slice a ks.length cap)) (.mk nd ks)) (hts : nd.text.size ≤ 4611686018427387904) (hn : nodesE (.mk nd ks) ≤ 2000) : Calls Try.prog 6 #[exV nd (.slice a ks.length cap)] w fun e w' => TwP w (.mk nd ks) e w' := by
  have hnil := fun w => slice_nil a ks.length cap w
  rw [ha] at hnil
  replace ha := hide ha
  replace hts := hide hts
  have hK := ht.kidsAt
  have hle : Hid (ks.length ≤ 1999) := hide (by have := len_nodes ks; rw [nodesE] at hn; omega)
  have hnk : Hid (∀ k ∈ ks, nodesE k ≤ 2000) := hide (fun k hk => by have := nodes_mem hk; rw [nodesE] at hn; omega)
  have c13 := (at14 nd (.slice a ks.length cap)).c13
  have hB2 := hide (step (step (Below.refl w.heap.size w) (exO nd (.slice a ks.length cap))) (exO nd0 (.slice none 0 0)))
  have P0 := hide ((Blk.new w (exC nd (.slice a ks.length cap)) 37).alloc (exO nd0 (.slice none 0 0)))
  have P1 := hide (Blk.new1 w (exO nd (.slice a ks.length cap)) (exC nd0 (.slice none 0 0)) 37)
  have S2 : Hid (((w.alloc (exO nd (.slice a ks.length cap))).alloc (exO nd0 (.slice none 0 0))).heap.size = w.heap.size + 1 + 1) := hide (by simp)
  obtain ⟨i0, hi, hz0, hz1, hz2⟩ := info_parts info_ex
  replace hi := hide hi
  replace hz0 := hide hz0
  replace hz1 := hide hz1
  replace hz2 := hide hz2
  replace hK := hide hK
  replace ih := hide ih
  have q13 := (P0.out.at' 13).trans c13
  have wl := IntWalk.wrap64_in ((ks.length : Int) + 1) ⟨by omega, by have := hle.out; omega⟩
  clear ht hn
  go_enter Try.func6, Try.ntmps6
  go_wp2_with (first
    | (at_make; (refine wpList_make_own _ rfl _ _ 30 rfl (w.heap.size + 1 + 1) 37 i0 _ 14 Try.underlying30 hi.out hz0.out hz1.out _ _ _ (ks.length + 1) rfl rfl (by rw [wl]; rfl) ?m1 ?m2 ?m3 ?_)))
  case m1 => rw [hz2.out]; have := hle.out; omega
  case m2 => have := hle.out; unfold maxLen; omega
  case m3 => simp
  intro w1 ho hg
  have hst : Hid (LwSt ((w.alloc (exO nd (.slice a ks.length cap))).alloc (exO nd0 (.slice none 0 0))) (w.heap.size + 1 + 1) (ks.length + 1) ks 0 w1 [] []) := hide ⟨⟨hg.os, hg.tape, hg.output, hg.size, fun x hx => hg.block x hx (by simp)⟩, by rw [S2.out]; exact ho, by rw [List.take_zero]; rfl, List.nodup_nil, fun x hx => by cases hx⟩
  clear ho hg q13 wl
  go_wp2_with fail
  go_loopw [3, 4] (fun l i wr => ∃ (k : Nat) (css : List (Array Value)) (bs : List Nat), k ≤ ks.length ∧ l = .slice (some ⟨w.heap.size + 1 + 1, 0, none⟩) k (ks.length + 1) ∧ i = .int .i64 k ∧ Hid (LwSt ((w.alloc (exO nd (.slice a ks.length cap))).alloc (exO nd0 (.slice none 0 0))) (w.heap.size + 1 + 1) (ks.length + 1) ks k wr css bs)) (fun _ i _ => ks.length - (intOf i).toNat)
  case atStart => exact ⟨0, [], [], Nat.zero_le _, rfl, rfl, hst⟩
  case round =>
    clear hst
    obtain ⟨k, css, bs, hkl, rfl, rfl, HC⟩ := hrel
    have z13 := ((P0.out.keep HC.out.low).at' 13).trans c13
    by_cases hlt : k < ks.length
    · have p0 : (k : Int) < (ks.length : Int) := by omega
      obtain ⟨b, o, rfl, hk, aa, kl, cc, tk, rk⟩ := hK.out.get hlt
      have belw := hide (next hB2.out HC.out.low)
      have R1 := hide (range_of_block rk (belw.out.block b (World.block_lt_of_cell? w ⟨b, _, none⟩ (rk 0 _ rfl))))
      have IH := hide (ih.out _ (List.getElem_mem hk) _ wr (tk.step belw.out) (hnk.out _ (List.getElem_mem hk)))
      have hmore := hide (fun (w2 w3 : World) (n : Nd) (s : Value) (bk : List Nat) => HC.out.more (w2 := w2) (w3 := w3) (n := n) (s := s) (bk := bk) hk)
      have hown := hide (fun (w2 : World) (o : Obj) (hb : Below wr.heap.size wr w2) => owns_keep (w' := w2.alloc o) HC.out.row (fun x hx => by have := (owns_lt HC.out.row x hx).2; rw [Below.heap_alloc _ _ x (Nat.lt_of_lt_of_le this hb.size)]; exact hb.block x this))
      have wk := IntWalk.wrap64_in ((k : Int) + 1) ⟨by omega, by have := hle.out; omega⟩
      have hk1 : Hid (k < ks.length + 1) := hide (by omega)
      generalize ks[k] = tk' at *
      clear tk rk
      go_wp2_with (first
        | (refine wpList_load_at rfl 37 _ rfl _ _ rfl _ _ (by with_reducible exact R1.out) Try.underlying37 rfl (exC_info _ _) ?_))
      refine IH.out.mono ?_
      rintro e w2 ⟨ak, ck, bks, rfl, hN, hNd, hNa, hb2⟩
      obtain ⟨bn, bl, hbn, hbl⟩ : ∃ bn bl, tk'.nd = bn ∧ tk'.kids.length = bl := ⟨_, _, rfl, rfl⟩
      rw [hbn, hbl] at hN ⊢
      have hsn := run_putnew w2 bn ak bl ck
      have K2 := hide (Blk.new w2 (exC bn (.slice ak bl ck)) 37)
      have hrw := hide (hown.out (w2.alloc (exO bn (.slice ak bl ck))) (exO bn (.slice ak bl ck)) (step hb2 (exO bn (.slice ak bl ck))))
      have hrg := hide (range_ex (w2.alloc (exO bn (.slice ak bl ck))) bn (.slice ak bl ck))
      have hmk := hide (fun (w3 : World) => hmore.out (w2.alloc (exO bn (.slice ak bl ck))) w3 bn (.slice ak bl ck) bks (hN.move _ (fun x hx => Below.heap_alloc w2 _ x (hNa x hx).2)) hNd (fun x hx => ⟨(hNa x hx).1, by rw [World.size_alloc]; have := (hNa x hx).2; omega⟩) (step hb2 (exO bn (.slice ak bl ck))))
      rw [World.size_alloc] at hrg
      clear hN hNd hNa hb2 hbn hbl hmore hown
      go_wp2_with (first
        | (refine wpList_load_blk rfl 37 _ rfl _ rfl _ (by with_reducible exact K2.out) _ Try.underlying37 rfl (exC_info _ _) ?_)
        | (refine Go.Great.wpList_buildSliceTo rfl 30 37 1 _ rfl (w2.heap.size + 1) (by simp) _ rfl Try.underlying30 (exC bn (.slice ak bl ck)) (by rw [Array.toList_map]; exact built1 _ _) ?_)
        | (at_builtin; refine wpList_fitX (g := w.heap.size + 1 + 1) (k := k) (cap := ks.length + 1) (X := w2.heap.size + 1) (n := bn) (sa := ak) (sl := bl) (sc := ck) rfl _ _ rfl rfl rfl hrw.out hrg.out hk1.out ?_; intro w3 r1 r2; have hnx := hide (hmk.out w3 r1 r2); clear r1 r2))
      refine ⟨⟨k + 1, _, _, hlt, rfl, by rw [wk]; rfl, hnx⟩, ?_⟩
      rw [wk]
      exact meas_lt hlt
    · obtain rfl : k = ks.length := by omega
      have hrw := hide (owns_keep (w' := wr.alloc (exO (nd7z) (.slice none 0 0))) HC.out.row (fun x hx => Below.heap_alloc _ _ x (owns_lt HC.out.row x hx).2))
      have hrg := hide (range_ex wr (nd7z) (.slice none 0 0))
      have hk1 : Hid (ks.length < ks.length + 1) := hide (by omega)
      have hfin := hide (fun (w3 : World) => HC.out.fin (nd := nd) (w3 := w3) hts.out (by have := hle.out; omega))
      have wl := IntWalk.wrap64_in (ks.length : Int) ⟨by omega, by have := hle.out; omega⟩
      go_wp2_with (first
        | (refine Go.Great.wpList_buildSliceTo rfl 30 37 1 _ rfl wr.heap.size rfl _ rfl Try.underlying30 (exC (nd7z) (.slice none 0 0)) (by kernel_rfl) ?_)
        | (at_builtin; refine wpList_fitX (g := w.heap.size + 1 + 1) (k := ks.length) (cap := ks.length + 1) (X := wr.heap.size) (n := nd7z) (sa := none) (sl := 0) (sc := 0) rfl _ _ rfl rfl rfl hrw.out hrg.out hk1.out ?_; intro w3 r1 r2; obtain ⟨hLy, hNd, hNa, hlow⟩ := hfin.out w3 r1 r2; have z3 := ((P0.out.keep hlow).at' 13).trans c13; have f3 := (P0.out.keep hlow).fr 13; have hgt : ∀ x ∈ (w.heap.size + 1 + 1) :: bs, w.heap.size + 1 < x := (fun x hx => by have := (hNa x hx).1; rw [S2.out] at this; omega); obtain ⟨F1, F2, F3, F4, F5⟩ := tw_fin (next hB2.out hlow) (P0.out.keep hlow) (P1.out.keep hlow) (sl' := .slice (some ⟨w.heap.size + 1 + 1, 0, none⟩) ks.length (ks.length + 1)) hgt hNa; replace F4 := hide F4; replace F5 := hide F5; replace hLy := hide hLy; replace hNd := hide hNd; replace hgt := hide hgt; have hgn := hide (tw_at (w0 := w) (sl' := .slice (some ⟨w.heap.size + 1 + 1, 0, none⟩) ks.length (ks.length + 1)) (nd := nd) hgt.out hNa); clear r1 r2 hNa)
        | (refine wpList_load_blk rfl 37 _ rfl _ rfl _ (by with_reducible exact F1) _ Try.underlying37 rfl (exC_info _ _) ?_)
        | (refine wpList_store_row rfl 37 _ _ rfl _ (exC nd (.slice (some ⟨w.heap.size + 1 + 1, 0, none⟩) ks.length (ks.length + 1))) rfl rfl 37 _ F2 (exC_info _ _) (by rfl) (exC_one _ _ _ _) ?_))
      refine bodyPost_ret (v := exV nd (.slice (some ⟨w.heap.size + 1 + 1, 0, none⟩) ks.length (ks.length + 1))) (results_cell_row Try.results6 _ _ (w.heap.size + 1) 37 (exC nd (.slice (some ⟨w.heap.size + 1 + 1, 0, none⟩) ks.length (ks.length + 1))) (0, 0) _ rfl F3 Try.underlying37 rfl (exC_info _ _)) rfl ?_
      exact ⟨_, _, _, rfl, hLy.out.move _ (fun x hx => F4.out x hx), hNd.out, hgn.out, F5.out⟩
theorem twin_any : ∀ t, TwinIs t := by
  refine Ex.ind fun nd ks ih => ?_
  intro v w ht hn
  obtain ⟨a, len, cap, rfl, hl, _, hts, hd⟩ := ht.un
  obtain rfl : len = ks.length := hl.out
  cases ha : a.isNone with
  | false => exact twin_some nd ks ih a ha cap w ht hts.out hn
  | true =>
    obtain rfl : a = none := Option.isNone_iff_eq_none.1 ha
    obtain rfl : ks = [] := by
      rcases hd.out with h | ⟨b, o, h, _⟩
      · exact List.eq_nil_of_length_eq_zero h
      · cases h
    exact twin_nil nd cap w hts.out
end Go.Proofs.Ytiajoppbgebnpaa
namespace Go.Proofs.Ytiajoppbgebnpaa
open Go.RowKit Go.Sort
set_option linter.unusedVariables false

theorem slice_nnil (a : Option Addr) (l c : Nat) (w : World) : (binOp .neq 30 (.slice a l c) (.slice none 0 0)).run Try.prog w = .ok (.bool (!a.isNone)) w := run_neq_slice_nil (P := Try.prog) w 30 37 a l c Try.underlying30
abbrev MrkIs (t : Ex) : Prop := ∀ (v : Value) (w : World) (bs : List Nat), Lw w v t bs → (∀ x ∈ bs, x < w.heap.size) → nodesE t ≤ 2000 → Calls Try.prog 25 #[v] w fun e w' => e = .returned (.bool true) ∧ Below w.heap.size w w'
set_option maxHeartbeats 2000000 in
set_option maxRecDepth 100000 in
theorem marks_nil (nd : Nd) (cap : Nat) (w : World) : Calls Try.prog 25 #[exV nd (.slice none 0 cap)] w fun e w' => e = .returned (.bool true) ∧ Below w.heap.size w w' := by
  have c13 := (at14 nd (.slice none 0 cap)).c13
  have P0 := hide (Blk.new w (exC nd (.slice none 0 cap)) 37)
  have B0 := hide (step (Below.refl w.heap.size w) (exO nd (.slice none 0 cap)))
  have q13 := (P0.out.at' 13).trans c13
  have hu := Try.underlying30
  have hnil := fun w => slice_nnil none 0 cap w
  go_enter Try.func25, Try.ntmps25
  go_wp2_with fail
  go_loopw [4] (fun i wr => i = .int .i64 0 ∧ Hid (wr = w.alloc (exO nd (.slice none 0 cap)))) (fun i _ => 0)
  case atStart => exact ⟨rfl, hide rfl⟩
  case round =>
    obtain ⟨rfl, HW⟩ := hrel
    go_wp2_with fail
    go_ret
    rw [HW.out]
    exact ⟨rfl, B0.out⟩
set_option maxHeartbeats 2000000 in
set_option maxRecDepth 100000 in
theorem marks_some (nd : Nd) (ks : List Ex) (ih : ∀ k ∈ ks, MrkIs k) (b : Nat) (bs' : List Nat) (w : World) (hlt : ∀ x ∈ b :: bs', x < w.heap.size) (hn : nodesE (.mk nd ks) ≤ 2000) (hr : w.rangeAt b (ks.length * 14) (exC nd7z (.slice none 0 0)).toList) (hk : LwL w b 0 ks bs') :
    Calls Try.prog 25 #[exV nd (.slice (some ⟨b, 0, none⟩) ks.length (ks.length + 1))] w fun e w' => e = .returned (.bool true) ∧ Below w.heap.size w w' := by
  have hle : Hid (ks.length ≤ 1999) := hide (by have := len_nodes ks; rw [nodesE] at hn; omega)
  have hnk : Hid (∀ k ∈ ks, nodesE k ≤ 2000) := hide (fun k hk => by have := nodes_mem hk; rw [nodesE] at hn; omega)
  have c13 := (at14 nd (.slice (some ⟨b, 0, none⟩) ks.length (ks.length + 1))).c13
  have P0 := hide (Blk.new w (exC nd (.slice (some ⟨b, 0, none⟩) ks.length (ks.length + 1))) 37)
  have B0 := hide (step (Below.refl w.heap.size w) (exO nd (.slice (some ⟨b, 0, none⟩) ks.length (ks.length + 1))))
  have R0 := hide (range_of_block hr (B0.out.block b (hlt b (List.mem_cons_self ..))))
  have x0 : (w.alloc (.cells (exC nd (.slice (some ⟨b, 0, none⟩) ks.length (ks.length + 1))) 37)).cell? ⟨b, ks.length * 14, none⟩ = some (.int .i64 (-7)) := R0.out 0 (.int .i64 (-7)) rfl
  have p2 : decide ((ks.length : Int) + 1 ≤ (ks.length : Int)) = false := by simp; omega
  have q13 := (P0.out.at' 13).trans c13
  have wl := IntWalk.wrap64_in ((ks.length : Int) + 1) ⟨by omega, by have := hle.out; omega⟩
  have p1 : ((ks.length + 1 : Nat) : Int) = (ks.length : Int) + 1 := by omega
  have hnil := fun w => slice_nnil (some ⟨b, 0, none⟩) ks.length (ks.length + 1) w
  replace hk := hide hk
  replace hlt := hide hlt
  replace ih := hide ih
  clear hr hn
  go_enter Try.func25, Try.ntmps25
  go_wp2_with fail
  have B1 : Hid (Below w.heap.size w (w.alloc (exO nd (.slice (some ⟨b, 0, none⟩) ks.length (ks.length + 1))))) := B0
  have P1 := P0
  clear x0 q13 wl p1 p2 R0 hnil
  go_loopw [4] (fun i wr => ∃ (k : Nat), k ≤ ks.length ∧ i = .int .i64 k ∧ Hid (Below (w.alloc (exO nd (.slice (some ⟨b, 0, none⟩) ks.length (ks.length + 1)))).heap.size (w.alloc (exO nd (.slice (some ⟨b, 0, none⟩) ks.length (ks.length + 1)))) wr)) (fun i _ => ks.length - (intOf i).toNat)
  case atStart => exact ⟨0, Nat.zero_le _, rfl, Below.refl _ _⟩
  case round =>
    obtain ⟨k, hkl, rfl, HB⟩ := hrel
    have z13 := ((P1.out.keep HB.out).at' 13).trans c13
    by_cases hlt' : k < ks.length
    · have p0 : (k : Int) < (ks.length : Int) := by omega
      obtain ⟨cs, b1, hsub, hLy, hrk⟩ := hk.out.get k hlt'
      have bw := hide (next B1.out HB.out)
      have hl1 : ∀ x ∈ b1, x < w.heap.size := fun x hx => hlt.out x (List.mem_cons_of_mem _ (hsub x hx))
      have R1 := hide (range_of_block hrk (bw.out.block b (hlt.out b (List.mem_cons_self ..))))
      obtain ⟨aa, al, ac, rfl⟩ := hLy.cs
      have IH := hide (ih.out _ (List.getElem_mem hlt') _ wr b1 (hLy.move _ (fun x hx => bw.out.block x (hl1 x hx))) (fun x hx => Nat.lt_of_lt_of_le (hl1 x hx) bw.out.size) (hnk.out _ (List.getElem_mem hlt')))
      have wk := IntWalk.wrap64_in ((k : Int) + 1) ⟨by omega, by have := hle.out; omega⟩
      rw [Nat.zero_add] at R1
      generalize ks[k] = tk' at *
      clear hLy hrk hl1 hsub
      go_wp2_with (first
        | (refine wpList_load_at rfl 37 _ rfl _ _ rfl _ _ (by with_reducible exact R1.out) Try.underlying37 rfl (exC_info _ _) ?_)
        | (go_at_call 25; refine IH.out.mono ?_; rintro e w4 ⟨rfl, hb4⟩; have b4 := hide (next HB.out hb4); clear hb4))
      refine ⟨⟨k + 1, hlt', by rw [wk]; rfl, b4⟩, ?_⟩
      rw [wk]
      exact meas_lt hlt'
    · obtain rfl : k = ks.length := by omega
      go_wp2_with fail
      go_ret
      exact ⟨rfl, next B1.out HB.out⟩
theorem marks_any : ∀ t, MrkIs t := by
  refine Ex.ind fun nd ks ih => ?_
  intro v w bs ho hlt hn
  obtain ⟨_, _, ⟨rfl, _, cap, rfl⟩ | ⟨b, cells, bs', rfl, rfl, _, _, hr, hk⟩⟩ := ho.un
  · exact marks_nil nd cap w
  · exact marks_some nd ks ih b bs' w hlt hn hr hk
set_option maxHeartbeats 2000000 in
set_option maxRecDepth 100000 in
theorem lkept_any (t : Ex) (v1 v2 : Value) (w : World) (bs : List Nat) (h1 : Lw w v1 t bs) (hlt : ∀ x ∈ bs, x < w.heap.size) (hn : nodesE t ≤ 2000) (h2 : Tree w v2 t) :
    Calls Try.prog 11 #[v1, v2] w fun e w' => e = .returned (.bool true) ∧ Below w.heap.size w w' := by
  obtain ⟨n1, ks⟩ := t
  have T1 : Tree w v1 (.mk n1 ks) := Lw.tree _ h1 hlt
  obtain ⟨a1, len1, cap1, rfl, _, _, _, _⟩ := T1.un
  obtain ⟨a2, len2, cap2, rfl, _, _, _, _⟩ := h2.un
  have bel := hide (step (step (Below.refl w.heap.size w) (exO n1 (.slice a1 len1 cap1))) (exO n1 (.slice a2 len2 cap2)))
  have L1 := hide ((Blk.new w (exC n1 (.slice a1 len1 cap1)) 37).alloc (exO n1 (.slice a2 len2 cap2)))
  have L2 := hide (Blk.new1 w (exO n1 (.slice a1 len1 cap1)) (exC n1 (.slice a2 len2 cap2)) 37)
  have HE := hide (fun w' (h : Below w.heap.size w w') => leq_any (.mk n1 ks) (.mk n1 ks) _ _ w' (T1.step h) (h2.step h))
  rw [same_selfE] at HE
  have HM := hide (fun w' (h : Below w.heap.size w w') => marks_any (.mk n1 ks) _ w' bs (h1.move _ (fun x hx => h.block x (hlt x hx))) (fun x hx => Nat.lt_of_lt_of_le (hlt x hx) h.size) hn)
  clear h1 h2 T1 hn hlt
  go_enter Try.func11, Try.ntmps11
  go_wp2_with (first
    | (refine wpList_load_blk rfl 37 _ rfl _ rfl _ (by with_reducible exact L1.out) _ Try.underlying37 rfl (exC_info _ _) ?_)
    | (refine wpList_load_blk rfl 37 _ rfl _ rfl _ (by with_reducible exact L2.out) _ Try.underlying37 rfl (exC_info _ _) ?_))
  refine (HE.out _ bel.out).mono ?_
  rintro e w1 ⟨rfl, hb⟩
  have b1 := hide (next bel.out hb)
  have M1 := hide (L1.out.keep hb)
  clear hb
  go_wp2_with (refine wpList_load_blk rfl 37 _ rfl _ rfl _ (by with_reducible exact M1.out) _ Try.underlying37 rfl (exC_info _ _) ?_)
  refine (HM.out _ b1.out).mono ?_
  rintro e w2 ⟨rfl, hb⟩
  have b2 := hide (next b1.out hb)
  clear hb
  go_wp2_with fail
  go_ret
  exact ⟨rfl, b2.out⟩
end Go.Proofs.Ytiajoppbgebnpaa
