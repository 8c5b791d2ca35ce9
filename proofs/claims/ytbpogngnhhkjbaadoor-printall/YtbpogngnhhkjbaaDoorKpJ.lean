/- Laid trees: every list in a block of its own, with a mark in the room behind it. quadrillelaw9.Lay and marked: what they answer. quadrillelaw9.Spoil: what it leaves: nothing is written but the tree's own lists. quadrillelaw9.Kept: a laid tree that was left as it was. -/
import Derived.Test.YtbpogngnhhkjbaaDoorCoJ
import Derived.Test.YtbpogngnhhkjbaaDoorMyJ
namespace Go.Proofs.YtbpogngnhhkjbaaDoor.T9
open Go.RowKit Go.Sort
set_option linter.unusedVariables false

section
variable {w : World} {ops : Array Oper} {rest : List Oper} {o : Oper} {a : Act} {Q : Exit → Act → World → Prop} {base g k cap X : Nat} {xs : List Value} {n : Nd} {sa : Option Addr} {sl sc : Nat}
/-- A tree appended within the room. -/
theorem wpList_fitX (hg : o.guard = none) (s y : Operand) (hop : o.op = Op.call { callee := Callee.builtin Builtin.append, args := #[s, y], argTypes := #[22, 22] })
    (hs : a.eval s = .slice (some ⟨g, 0, none⟩) k cap) (hx : a.eval y = .slice (some ⟨X, 0, none⟩) 1 1) (hown : w.ownsRow base 30 14 (.slice (some ⟨g, 0, none⟩) k cap) k xs) (hc : w.rangeAt X 0 (exC n (.slice sa sl sc)).toList) (hlt : k < cap)
    (hK : ∀ w', w'.ownsRow base 30 14 (.slice (some ⟨g, 0, none⟩) (k + 1) cap) (k + 1) (xs ++ (exC n (.slice sa sl sc)).toList) → w.grownBy w' (some g) → wpList Tryd.prog ops Q rest (a.put o.dst (.slice (some ⟨g, 0, none⟩) (k + 1) cap)) w') : wpList Tryd.prog ops Q (o :: rest) a w := by
  obtain ⟨i0, hi, hz0, hz1, hz2⟩ := info_parts info_ex
  exact wpList_append_fits w hg s y 22 hop base 30 i0 14 Tryd.underlying22 hi hz1 g k cap xs hs hown ⟨X, 0, none⟩ 1 1 (exC n (.slice sa sl sc)).toList hx (exC_len _ _) (fun j u hj => by rw [Addr.add_mid, Nat.zero_add]; have := hc j u hj; rwa [Nat.zero_add] at this) (fun u hu => (Array.all_eq_true_iff_forall_mem.1 (exC_one n sa sl sc)) u (by simpa using hu)) hlt hK
end
def lenOf : Value → Nat
  | .slice _ m _ => m
  | _ => 0
abbrev nd7 (n : Int) : Nd := ⟨-7, 0, n, no, ⟨0, 0, false, false⟩, ⟨0, 0, false, false⟩, 0⟩
mutual
/-- The tree lies in memory, laid; the blocks of its lists. -/
def Ly (w : World) (v : Value) : Ex → List Nat → Prop
  | .mk nd ks, bs => ∃ b cells bs', v = exV nd (.slice (some ⟨b, 0, none⟩) ks.length (ks.length + 1)) ∧ bs = b :: bs' ∧ w.heap[b]? = some (.cells cells 30 (0, 0)) ∧ cells.size = (ks.length + 1) * 14 ∧ ks.length + 1 ≤ maxLen ∧ w.rangeAt b (ks.length * 14) (exC (nd7 ks.length) (.slice none 0 0)).toList ∧ LyL w b 0 ks bs'
def LyL (w : World) (b o : Nat) : List Ex → List Nat → Prop
  | [], bs => bs = []
  | k :: r, bs => ∃ cs b1 b2, bs = b1 ++ b2 ∧ Ly w (.agg cs) k b1 ∧ w.rangeAt b o cs.toList ∧ LyL w b (o + 14) r b2
end
theorem Ly.un {w : World} {v : Value} {nd : Nd} {ks : List Ex} {bs : List Nat} (h : Ly w v (.mk nd ks) bs) : ∃ b cells bs', v = exV nd (.slice (some ⟨b, 0, none⟩) ks.length (ks.length + 1)) ∧ bs = b :: bs' ∧ w.heap[b]? = some (.cells cells 30 (0, 0)) ∧ cells.size = (ks.length + 1) * 14 ∧ ks.length + 1 ≤ maxLen ∧ w.rangeAt b (ks.length * 14) (exC (nd7 ks.length) (.slice none 0 0)).toList ∧ LyL w b 0 ks bs' := by
  unfold Ly at h; exact h
mutual
theorem Ly.move {w w' : World} : ∀ (t : Ex) {v : Value} {bs : List Nat}, Ly w v t bs → (∀ k ∈ bs, w'.heap[k]? = w.heap[k]?) → Ly w' v t bs
  | .mk nd ks, v, bs, h, hm => by
    unfold Ly at h ⊢
    obtain ⟨b, cells, bs', hv, rfl, hc, hz, hle, hr, hk⟩ := h
    have hb := hm b (List.mem_cons_self ..)
    exact ⟨b, cells, bs', hv, rfl, hb.trans hc, hz, hle, range_of_block hr hb, LyL.move ks hk (fun k hk => hm k (List.mem_cons_of_mem _ hk)) (fun j => World.cell?_of_block hb)⟩
theorem LyL.move {w w' : World} {b : Nat} : ∀ (ks : List Ex) {o : Nat} {bs : List Nat}, LyL w b o ks bs → (∀ k ∈ bs, w'.heap[k]? = w.heap[k]?) → (∀ j, w'.cell? ⟨b, j, none⟩ = w.cell? ⟨b, j, none⟩) → LyL w' b o ks bs
  | [], o, bs, h, hm, hc => by unfold LyL at h ⊢; exact h
  | k :: r, o, bs, h, hm, hc => by
    unfold LyL at h ⊢
    obtain ⟨cs, b1, b2, rfl, h1, h2, h3⟩ := h
    exact ⟨cs, b1, b2, rfl, Ly.move k h1 (fun k hk => hm k (List.mem_append_left _ hk)), fun j v hv => (hc _).trans (h2 j v hv), LyL.move r h3 (fun k hk => hm k (List.mem_append_right _ hk)) hc⟩
end
mutual
theorem Ly.ow {w : World} : ∀ (t : Ex) {v : Value} {bs : List Nat}, Ly w v t bs → Ow w v t bs
  | .mk nd ks, v, bs, h => by
    unfold Ly at h; unfold Ow
    obtain ⟨b, cells, bs', hv, rfl, hc, hz, hle, hr, hk⟩ := h
    exact ⟨_, _, _, hv, rfl, .inr ⟨b, cells, bs', rfl, rfl, hc, hz, ⟨by omega, hle⟩, LyL.ow ks hk⟩⟩
theorem LyL.ow {w : World} {b : Nat} : ∀ (ks : List Ex) {o : Nat} {bs : List Nat}, LyL w b o ks bs → OwL w b o ks bs
  | [], o, bs, h => by unfold LyL at h; unfold OwL; exact h
  | k :: r, o, bs, h => by
    unfold LyL at h; unfold OwL
    obtain ⟨cs, b1, b2, rfl, h1, h2, h3⟩ := h
    exact ⟨cs, b1, b2, rfl, Ly.ow k h1, h2, LyL.ow r h3⟩
end
theorem LyL.get {w : World} {b : Nat} : ∀ {ks : List Ex} {o : Nat} {bs : List Nat}, LyL w b o ks bs → ∀ i (hi : i < ks.length), ∃ cs b1, (∀ x ∈ b1, x ∈ bs) ∧ Ly w (.agg cs) ks[i] b1 ∧ w.rangeAt b (o + i * 14) cs.toList
  | [], _, _, _, i, hi => absurd hi (Nat.not_lt_zero i)
  | k :: r, o, bs, h, 0, _ => by
    unfold LyL at h
    obtain ⟨cs, b1, b2, rfl, h1, h2, _⟩ := h
    exact ⟨cs, b1, fun x hx => List.mem_append_left _ hx, h1, by simpa using h2⟩
  | k :: r, o, bs, h, i + 1, hi => by
    unfold LyL at h
    obtain ⟨cs, b1, b2, rfl, _, _, h3⟩ := h
    obtain ⟨cs', c1, hs, h1, h2⟩ := LyL.get h3 i (by simpa using hi)
    exact ⟨cs', c1, fun x hx => List.mem_append_right _ (hs x hx), by simpa only [List.getElem_cons_succ] using h1, by rw [show o + (i + 1) * 14 = o + 14 + i * 14 by omega]; exact h2⟩
theorem Ly.lt {w : World} {v : Value} {t : Ex} {bs : List Nat} (h : Ly w v t bs) (hl : ∀ (x : Nat), x ∈ bs → x < w.heap.size) {w' : World} (hb : Below w.heap.size w w') : Ly w' v t bs := h.move _ (fun k hk => hb.block k (hl k hk))
theorem Ly.cs {w : World} {cs : Array Value} {t : Ex} {bs : List Nat} (h : Ly w (.agg cs) t bs) : ∃ a len cap, cs = exC t.nd (.slice a len cap) := (Ly.ow _ h).cs
/-- Laid trees behind their cells. -/
def LyK (w : World) : List (Array Value) → List Ex → List Nat → Prop
  | [], [], bs => bs = []
  | cs :: css, k :: r, bs => ∃ b1 b2, bs = b1 ++ b2 ∧ Ly w (.agg cs) k b1 ∧ LyK w css r b2
  | _, _, _ => False
theorem LyK.move {w w' : World} : ∀ {css : List (Array Value)} {ks : List Ex} {bs : List Nat}, LyK w css ks bs → (∀ k ∈ bs, w'.heap[k]? = w.heap[k]?) → LyK w' css ks bs
  | [], [], bs, h, hm => h
  | cs :: css, k :: r, bs, h, hm => by
    obtain ⟨b1, b2, rfl, h1, h2⟩ := h
    exact ⟨b1, b2, rfl, h1.move k (fun x hx => hm x (List.mem_append_left _ hx)), LyK.move h2 (fun x hx => hm x (List.mem_append_right _ hx))⟩
  | [], k :: r, bs, h, hm => h.elim
  | cs :: css, [], bs, h, hm => h.elim
theorem LyK.snoc {w : World} : ∀ {css : List (Array Value)} {ks : List Ex} {bs : List Nat} {cs : Array Value} {k : Ex} {bk : List Nat}, LyK w css ks bs → Ly w (.agg cs) k bk → LyK w (css ++ [cs]) (ks ++ [k]) (bs ++ bk)
  | [], [], bs, cs, k, bk, h, hk => by
    have : bs = [] := h
    subst this
    exact ⟨bk, [], by simp, hk, rfl⟩
  | c :: css, x :: r, bs, cs, k, bk, h, hk => by
    obtain ⟨b1, b2, rfl, h1, h2⟩ := h
    exact ⟨b1, b2 ++ bk, by simp, h1, LyK.snoc h2 hk⟩
  | [], x :: r, bs, cs, k, bk, h, hk => h.elim
  | c :: css, [], bs, cs, k, bk, h, hk => h.elim
theorem LyK.len {w : World} : ∀ {css : List (Array Value)} {ks : List Ex} {bs : List Nat}, LyK w css ks bs → css.length = ks.length ∧ ∀ cs ∈ css, cs.toList.length = 14
  | [], [], bs, h => ⟨rfl, fun cs hc => by cases hc⟩
  | c :: css, x :: r, bs, h => by
    obtain ⟨b1, b2, rfl, h1, h2⟩ := h
    obtain ⟨l1, l2⟩ := LyK.len h2
    refine ⟨by simp [l1], fun cs hc => ?_⟩
    rcases List.mem_cons.1 hc with rfl | hc
    · obtain ⟨a, l, cp, rfl⟩ := h1.cs
      exact exC_len _ _
    · exact l2 cs hc
  | [], x :: r, bs, h => h.elim
  | c :: css, [], bs, h => h.elim
theorem LyK.row {w : World} {g : Nat} : ∀ {css : List (Array Value)} {ks : List Ex} {bs : List Nat} {o : Nat}, LyK w css ks bs → (∀ j v, (flX css)[j]? = some v → w.cell? ⟨g, o + j, none⟩ = some v) → LyL w g o ks bs
  | [], [], bs, o, h, hc => by unfold LyL; exact h
  | c :: css, x :: r, bs, o, h, hc => by
    obtain ⟨b1, b2, rfl, h1, h2⟩ := h
    have hl : c.toList.length = 14 := by obtain ⟨a, l, cp, rfl⟩ := h1.cs; exact exC_len _ _
    have hf : flX (c :: css) = c.toList ++ flX css := rfl
    unfold LyL
    refine ⟨c, b1, b2, rfl, h1, fun j v hv => hc j v ?_, LyK.row h2 (fun j v hv => ?_)⟩
    · rw [hf, List.getElem?_append_left (List.getElem?_eq_some_iff.1 hv).1]; exact hv
    · have := hc (14 + j) v (by rw [hf, List.getElem?_append_right (by omega), show 14 + j - c.toList.length = j by omega]; exact hv)
      rwa [show o + (14 + j) = o + 14 + j by omega] at this
  | [], x :: r, bs, o, h, hc => h.elim
  | c :: css, [], bs, o, h, hc => h.elim
theorem flX_snoc (css : List (Array Value)) (c : Array Value) : flX (css ++ [c]) = flX css ++ c.toList := by simp [flX]
theorem flX_len {w : World} {css : List (Array Value)} {ks : List Ex} {bs : List Nat} (h : LyK w css ks bs) : (flX css).length = css.length * 14 := by
  have := h.len.2
  clear h
  induction css with
  | nil => rfl
  | cons c r ih => simp only [flX, List.flatMap_cons, List.length_append, List.length_cons] at ih ⊢; have h1 := this c (List.mem_cons_self ..); have h2 := ih (fun x hx => this x (List.mem_cons_of_mem _ hx)); omega
/-- While the kids are laid. -/
structure LySt (w1 : World) (g cap : Nat) (ks : List Ex) (k : Nat) (wr : World) (css : List (Array Value)) (bs : List Nat) : Prop where
  low : Below w1.heap.size w1 wr
  row : wr.ownsRow w1.heap.size 30 14 (.slice (some ⟨g, 0, none⟩) k cap) k (flX css)
  kids : LyK wr css (ks.take k) bs
  nd : bs.Nodup
  new : ∀ x ∈ bs, w1.heap.size ≤ x ∧ x < wr.heap.size ∧ x ≠ g
theorem LySt.at' {w1 : World} {g cap : Nat} {ks : List Ex} {k : Nat} {wr : World} {css : List (Array Value)} {bs : List Nat} (h : LySt w1 g cap ks k wr css bs) : w1.heap.size ≤ g ∧ g < wr.heap.size := owns_lt h.row g rfl
theorem LySt.more {w1 : World} {g cap : Nat} {ks : List Ex} {k : Nat} {wr : World} {css : List (Array Value)} {bs : List Nat} (h : LySt w1 g cap ks k wr css bs) (hk : k < ks.length) {w2 w3 : World} {n : Nd} {s : Value} {bk : List Nat}
    (hN : Ly w2 (exV n s) ks[k] bk) (hNd : bk.Nodup) (hNa : ∀ x ∈ bk, wr.heap.size ≤ x ∧ x < w2.heap.size) (hb : Below wr.heap.size wr w2) (hr : w3.ownsRow w1.heap.size 30 14 (.slice (some ⟨g, 0, none⟩) (k + 1) cap) (k + 1) (flX css ++ (exC n s).toList)) (hg : (w2.alloc (exO n s)).grownBy w3 (some g)) :
    LySt w1 g cap ks (k + 1) w3 (css ++ [exC n s]) (bs ++ bk) := by
  have hal : (w2.alloc (exO n s)).heap.size = w2.heap.size + 1 := by simp
  have hs2 := hb.size
  have hs3 := hg.size
  obtain ⟨hg1, hg2⟩ := h.at'
  have hkeep : ∀ x, x < w2.heap.size → x ≠ g → w3.heap[x]? = w2.heap[x]? := fun x hx hne => (hg.block x (by omega) (fun e => hne (by cases e; rfl))).trans (Below.heap_alloc w2 _ x hx)
  refine ⟨?_, by rw [flX_snoc]; exact hr, ?_, ?_, ?_⟩
  · have h1 : Below w1.heap.size w1 w2 := h.low.trans (hb.mono h.low.size)
    exact ⟨hg.os.trans h1.os, hg.tape.trans h1.tape, hg.output.trans h1.output, by have := h1.size; omega, fun x hx => (hkeep x (by have := h1.size; omega) (by omega)).trans (h1.block x hx)⟩
  · rw [List.take_succ_eq_append_getElem hk]
    refine LyK.snoc (h.kids.move (fun x hx => ?_)) (hN.move _ (fun x hx => hkeep x (hNa x hx).2 (by have := (hNa x hx).1; omega)))
    have := h.new x hx
    exact (hkeep x (by omega) this.2.2).trans (hb.block x this.2.1)
  · exact List.nodup_append.2 ⟨h.nd, hNd, fun x hx y hy e => by have := (h.new x hx).2.1; have := (hNa y hy).1; omega⟩
  · intro x hx
    rcases List.mem_append.1 hx with hx | hx
    · have := h.new x hx; exact ⟨this.1, by omega, this.2.2⟩
    · have q := hNa x hx; have := h.low.size; exact ⟨by omega, by omega, by omega⟩
/-- The mark is laid: the tree stands. -/
theorem LySt.fin {w1 : World} {g : Nat} {nd : Nd} {ks : List Ex} {wr w3 : World} {css : List (Array Value)} {bs : List Nat} (h : LySt w1 g (ks.length + 1) ks ks.length wr css bs)
    (hr : w3.ownsRow w1.heap.size 30 14 (.slice (some ⟨g, 0, none⟩) (ks.length + 1) (ks.length + 1)) (ks.length + 1) (flX css ++ (exC (nd7 ks.length) (.slice none 0 0)).toList)) (hg : (wr.alloc (exO (nd7 ks.length) (.slice none 0 0))).grownBy w3 (some g)) :
    Ly w3 (exV nd (.slice (some ⟨g, 0, none⟩) ks.length (ks.length + 1))) (.mk nd ks) (g :: bs) ∧ (g :: bs).Nodup ∧ (∀ x ∈ g :: bs, w1.heap.size ≤ x ∧ x < w3.heap.size) ∧ Below w1.heap.size w1 w3 := by
  have hs3 := hg.size
  have hal : (wr.alloc (exO (nd7 ks.length) (.slice none 0 0))).heap.size = wr.heap.size + 1 := by simp
  obtain ⟨hg1, hg2⟩ := h.at'
  have hkeep : ∀ x, x < wr.heap.size → x ≠ g → w3.heap[x]? = wr.heap[x]? := fun x hx hne => (hg.block x (by omega) (fun e => hne (by cases e; rfl))).trans (Below.heap_alloc wr _ x hx)
  have hk := h.kids
  rw [List.take_length] at hk
  have hfl := flX_len hk
  have hcl := hk.len.1
  rcases hr.2 with ⟨e, _⟩ | ⟨g', cap', cur, e, _, hcur, hle, hmx, hcs, htk⟩
  · cases e
  · cases e
    have hall : cur.toList = flX css ++ (exC (nd7 ks.length) (.slice none 0 0)).toList := by rw [← htk, List.take_of_length_le (by rw [Array.length_toList, hcs]; omega)]
    refine ⟨?_, List.nodup_cons.2 ⟨fun hx => (h.new g hx).2.2 rfl, h.nd⟩, fun x hx => ?_, ?_⟩
    · unfold Ly
      refine ⟨g, cur, bs, rfl, rfl, hcur, hcs, hmx, fun j v hv => ?_, ?_⟩
      · rw [cell_of_row w3 g _ cur _ _ hcur, ← Array.getElem?_toList, hall, List.getElem?_append_right (by rw [hfl, hcl]; omega), hfl, hcl, show ks.length * 14 + j - ks.length * 14 = j by omega]
        exact hv
      · refine (hk.move (fun x hx => hkeep x (h.new x hx).2.1 (h.new x hx).2.2)).row (fun j v hv => ?_)
        rw [Nat.zero_add, cell_of_row w3 g _ cur _ _ hcur, ← Array.getElem?_toList, hall, List.getElem?_append_left (List.getElem?_eq_some_iff.1 hv).1]
        exact hv
    · rcases List.mem_cons.1 hx with rfl | hx
      · exact ⟨hg1, by omega⟩
      · have := h.new x hx; exact ⟨this.1, by omega⟩
    · exact ⟨hg.os.trans h.low.os, hg.tape.trans h.low.tape, hg.output.trans h.low.output, by have := h.low.size; omega, fun x hx => (hkeep x (by have := h.low.size; omega) (by omega)).trans (h.low.block x hx)⟩
end Go.Proofs.YtbpogngnhhkjbaaDoor.T9
namespace Go.Proofs.YtbpogngnhhkjbaaDoor.T9
open Go.RowKit Go.Sort
set_option linter.unusedVariables false

/-- What Lay answers. -/
def LayP (w : World) (t : Ex) (e : Ending) (w' : World) : Prop := ∃ b bs, e = .returned (exV t.nd (.slice (some ⟨b, 0, none⟩) t.kids.length (t.kids.length + 1))) ∧ Ly w' (exV t.nd (.slice (some ⟨b, 0, none⟩) t.kids.length (t.kids.length + 1))) t bs ∧ bs.Nodup ∧ (∀ k ∈ bs, w.heap.size ≤ k ∧ k < w'.heap.size) ∧ Below w.heap.size w w'
abbrev LayIs (t : Ex) : Prop := ∀ (v : Value) (w : World), Tree w v t → nodesE t ≤ 512 → Calls Tryd.prog 7 #[v] w fun e w' => LayP w t e w'
set_option maxHeartbeats 2000000 in
set_option maxRecDepth 100000 in
theorem lay_any : ∀ t, LayIs t := by
  refine Ex.ind fun nd ks ih => ?_
  intro v w ht hn
  obtain ⟨a, len, cap, rfl, hl, _, _, _⟩ := ht.un
  obtain rfl : len = ks.length := hl.out
  have hK := ht.kidsAt
  have hle : Hid (ks.length ≤ 511) := hide (by have := len_nodes ks; rw [nodesE] at hn; omega)
  have hnk : Hid (∀ k ∈ ks, nodesE k ≤ 512) := hide (fun k hk => by have := nodes_mem hk; rw [nodesE] at hn; omega)
  have c13 := (at14 nd (.slice a ks.length cap)).c13
  have hB2 := hide (step (step (Below.refl w.heap.size w) (exO nd (.slice a ks.length cap))) (exO nd0 (.slice none 0 0)))
  have P0 := hide ((Blk.new w (exC nd (.slice a ks.length cap)) 30).alloc (exO nd0 (.slice none 0 0)))
  have P1 := hide (Blk.new1 w (exO nd (.slice a ks.length cap)) (exC nd0 (.slice none 0 0)) 30)
  have S2 : Hid (((w.alloc (exO nd (.slice a ks.length cap))).alloc (exO nd0 (.slice none 0 0))).heap.size = w.heap.size + 1 + 1) := hide (by simp)
  obtain ⟨i0, hi, hz0, hz1, hz2⟩ := info_parts info_ex
  replace hi := hide hi
  replace hz0 := hide hz0
  replace hz1 := hide hz1
  replace hz2 := hide hz2
  replace hK := hide hK
  replace ih := hide ih
  have q13 := (P0.out.at' 13).trans c13
  have wl := IntWalk.wrap64_in ((ks.length : Int) + 1) ⟨by omega, by have := hle.out; omega⟩
  clear ht hn hl
  go_enter Tryd.func7, Tryd.ntmps7
  go_wp2_with (first
    | (at_make; (refine wpList_make_own _ rfl _ _ 22 rfl (w.heap.size + 1 + 1) 30 i0 _ 14 Tryd.underlying22 hi.out hz0.out hz1.out _ _ _ (ks.length + 1) rfl rfl (by rw [wl]; rfl) ?m1 ?m2 ?m3 ?_)))
  case m1 => rw [hz2.out]; have := hle.out; omega
  case m2 => have := hle.out; unfold maxLen; omega
  case m3 => simp
  intro w1 ho hg
  have hst : Hid (LySt ((w.alloc (exO nd (.slice a ks.length cap))).alloc (exO nd0 (.slice none 0 0))) (w.heap.size + 1 + 1) (ks.length + 1) ks 0 w1 [] []) := hide ⟨⟨hg.os, hg.tape, hg.output, hg.size, fun x hx => hg.block x hx (by simp)⟩, by rw [S2.out]; exact ho, by rw [List.take_zero]; rfl, List.nodup_nil, fun x hx => by cases hx⟩
  clear ho hg q13 wl
  go_wp2_with fail
  go_loopw [3, 4] (fun l i wr => ∃ (k : Nat) (css : List (Array Value)) (bs : List Nat), k ≤ ks.length ∧ l = .slice (some ⟨w.heap.size + 1 + 1, 0, none⟩) k (ks.length + 1) ∧ i = .int .i64 k ∧ Hid (LySt ((w.alloc (exO nd (.slice a ks.length cap))).alloc (exO nd0 (.slice none 0 0))) (w.heap.size + 1 + 1) (ks.length + 1) ks k wr css bs)) (fun _ i _ => ks.length - (intOf i).toNat)
  case atStart => exact ⟨0, [], [], Nat.zero_le _, rfl, rfl, hst⟩
  case round =>
    clear hst
    obtain ⟨k, css, bs, hkl, rfl, rfl, HC⟩ := hrel
    have z13 := ((P0.out.keep HC.out.low).at' 13).trans c13
    by_cases hlt : k < ks.length
    · have p0 : (k : Int) < (ks.length : Int) := by omega
      obtain ⟨b, o, rfl, hk, aa, kl, cc, tk, rk⟩ := hK.out.get hlt
      have belw := hide (next hB2.out HC.out.low)
      have R1 := hide (range_of_block rk (belw.out.block b (World.block_lt_of_cell? w ⟨b, _, none⟩ (rk 0 _ rfl))))
      have IH := hide (ih.out _ (List.getElem_mem hk) _ wr (tk.step belw.out) (hnk.out _ (List.getElem_mem hk)))
      have hmore := hide (fun (w2 w3 : World) (n : Nd) (s : Value) (bk : List Nat) => HC.out.more (w2 := w2) (w3 := w3) (n := n) (s := s) (bk := bk) hk)
      have hown := hide (fun (w2 : World) (o : Obj) (hb : Below wr.heap.size wr w2) => owns_keep (w' := w2.alloc o) HC.out.row (fun x hx => by have := (owns_lt HC.out.row x hx).2; rw [Below.heap_alloc _ _ x (Nat.lt_of_lt_of_le this hb.size)]; exact hb.block x this))
      have wk := IntWalk.wrap64_in ((k : Int) + 1) ⟨by omega, by have := hle.out; omega⟩
      have hk1 : Hid (k < ks.length + 1) := hide (by omega)
      generalize ks[k] = tk' at *
      clear tk rk
      go_wp2_with (first
        | (refine wpList_load_at rfl 30 _ rfl _ _ rfl _ _ (by with_reducible exact R1.out) Tryd.underlying30 rfl (exC_info _ _) ?_)
        | (go_at_call 7; refine IH.out.mono ?_; rintro e w2 ⟨bk0, bks, rfl, hN, hNd, hNa, hb2⟩; have hrw := hide (hown.out w2 (exO tk'.nd (.slice (some ⟨bk0, 0, none⟩) tk'.kids.length (tk'.kids.length + 1))) hb2); have hrg := hide (range_ex w2 tk'.nd (.slice (some ⟨bk0, 0, none⟩) tk'.kids.length (tk'.kids.length + 1))); have hmk := hide (fun w3 => hmore.out w2 w3 _ _ bks hN hNd hNa hb2); clear hN hNd hNa hb2)
        | (refine Go.Great.wpList_buildSliceTo rfl 22 30 1 _ rfl w2.heap.size rfl _ rfl Tryd.underlying22 (exC tk'.nd (.slice (some ⟨bk0, 0, none⟩) tk'.kids.length (tk'.kids.length + 1))) (by rw [Array.toList_map]; exact built1 _ _) ?_)
        | (at_builtin; refine wpList_fitX (g := w.heap.size + 1 + 1) (k := k) (cap := ks.length + 1) (X := w2.heap.size) (n := tk'.nd) (sa := some ⟨bk0, 0, none⟩) (sl := tk'.kids.length) (sc := tk'.kids.length + 1) rfl _ _ rfl rfl rfl hrw.out hrg.out hk1.out ?_; intro w3 r1 r2; have hnx := hide (hmk.out w3 r1 r2); clear r1 r2))
      refine ⟨⟨k + 1, _, _, hlt, rfl, by rw [wk]; rfl, hnx⟩, ?_⟩
      rw [wk]
      exact meas_lt hlt
    · obtain rfl : k = ks.length := by omega
      have hrw := hide (owns_keep (w' := wr.alloc (exO (nd7 ks.length) (.slice none 0 0))) HC.out.row (fun x hx => Below.heap_alloc _ _ x (owns_lt HC.out.row x hx).2))
      have hrg := hide (range_ex wr (nd7 ks.length) (.slice none 0 0))
      have hk1 : Hid (ks.length < ks.length + 1) := hide (by omega)
      have hfin := hide (fun (w3 : World) => HC.out.fin (nd := nd) (w3 := w3))
      have wl := IntWalk.wrap64_in (ks.length : Int) ⟨by omega, by have := hle.out; omega⟩
      go_wp2_with (first
        | (refine Go.Great.wpList_buildSliceTo rfl 22 30 1 _ rfl wr.heap.size rfl _ rfl Tryd.underlying22 (exC (nd7 ks.length) (.slice none 0 0)) (by kernel_rfl) ?_)
        | (at_builtin; refine wpList_fitX (g := w.heap.size + 1 + 1) (k := ks.length) (cap := ks.length + 1) (X := wr.heap.size) (n := nd7 ks.length) (sa := none) (sl := 0) (sc := 0) rfl _ _ rfl rfl rfl hrw.out hrg.out hk1.out ?_; intro w3 r1 r2; obtain ⟨hLy, hNd, hNa, hlow⟩ := hfin.out w3 r1 r2; have z3 := ((P0.out.keep hlow).at' 13).trans c13; have f3 := (P0.out.keep hlow).fr 13; have hgt : ∀ x ∈ (w.heap.size + 1 + 1) :: bs, w.heap.size + 1 < x := (fun x hx => by have := (hNa x hx).1; rw [S2.out] at this; omega); obtain ⟨F1, F2, F3, F4, F5⟩ := cp_fin (next hB2.out hlow) (P0.out.keep hlow) (P1.out.keep hlow) (⟨Ly.ow _ hLy, hNd, fun x hx => ⟨by have := hgt x hx; omega, (hNa x hx).2⟩⟩ : New w w3 (exV nd (.slice (some ⟨w.heap.size + 1 + 1, 0, none⟩) ks.length (ks.length + 1))) (.mk nd ks) ((w.heap.size + 1 + 1) :: bs)) hgt; replace F4 := hide F4; replace F5 := hide F5; replace hLy := hide hLy; replace hNd := hide hNd; replace hgt := hide hgt; clear r1 r2 hNa)
        | (refine wpList_load_blk rfl 30 _ rfl _ rfl _ (by with_reducible exact F1) _ Tryd.underlying30 rfl (exC_info _ _) ?_)
        | (refine wpList_store_row rfl 30 _ _ rfl _ (exC nd (.slice (some ⟨w.heap.size + 1 + 1, 0, none⟩) ks.length (ks.length + 1))) rfl rfl 30 _ F2 (exC_info _ _) (by rfl) (exC_one _ _ _ _) ?_))
      refine bodyPost_ret (v := exV nd (.slice (some ⟨w.heap.size + 1 + 1, 0, none⟩) ks.length (ks.length + 1))) (results_cell_row Tryd.results7 _ _ (w.heap.size + 1) 30 (exC nd (.slice (some ⟨w.heap.size + 1 + 1, 0, none⟩) ks.length (ks.length + 1))) (0, 0) _ rfl F3 Tryd.underlying30 rfl (exC_info _ _)) rfl ?_
      exact ⟨_, _, rfl, hLy.out.move _ (fun x hx => (setRow_other _ _ _ _ (by have := hgt.out x hx; omega)).trans (Below.heap_setCell _ _ _ _ (by have := hgt.out x hx; show x ≠ w.heap.size; omega))), hNd.out, F4.out.at', F5.out⟩
abbrev MarkIs (t : Ex) : Prop := ∀ (v : Value) (w : World) (bs : List Nat), Ly w v t bs → (∀ x ∈ bs, x < w.heap.size) → nodesE t ≤ 512 → Calls Tryd.prog 16 #[v] w fun e w' => e = .returned (.bool true) ∧ Below w.heap.size w w'
set_option maxHeartbeats 2000000 in
set_option maxRecDepth 100000 in
theorem marked_any : ∀ t, MarkIs t := by
  refine Ex.ind fun nd ks ih => ?_
  intro v w bs ho hlt hn
  obtain ⟨b, cells, bs', rfl, rfl, hc, hz, hmx, hr, hk⟩ := ho.un
  have hle : Hid (ks.length ≤ 511) := hide (by have := len_nodes ks; rw [nodesE] at hn; omega)
  have hnk : Hid (∀ k ∈ ks, nodesE k ≤ 512) := hide (fun k hk => by have := nodes_mem hk; rw [nodesE] at hn; omega)
  have c13 := (at14 nd (.slice (some ⟨b, 0, none⟩) ks.length (ks.length + 1))).c13
  have P0 := hide (Blk.new w (exC nd (.slice (some ⟨b, 0, none⟩) ks.length (ks.length + 1))) 30)
  have B0 := hide (step (Below.refl w.heap.size w) (exO nd (.slice (some ⟨b, 0, none⟩) ks.length (ks.length + 1))))
  have R0 := hide (range_of_block hr (B0.out.block b (hlt b (List.mem_cons_self ..))))
  have hsn := run_putnew (w.alloc (exO nd (.slice (some ⟨b, 0, none⟩) ks.length (ks.length + 1)))) (nd7 ks.length) none 0 0
  rw [World.size_alloc] at hsn
  have X1 := hide (Blk.new1 w (exO nd (.slice (some ⟨b, 0, none⟩) ks.length (ks.length + 1))) (exC (nd7 ks.length) (.slice none 0 0)) 30)
  have x0 := (X1.out.at' 0).trans (at14 (nd7 ks.length) (.slice none 0 0)).c0
  have x2 := (X1.out.at' 2).trans (at14 (nd7 ks.length) (.slice none 0 0)).c2
  have x13 := (X1.out.at' 13).trans (at14 (nd7 ks.length) (.slice none 0 0)).c13
  have q13 := (P0.out.at' 13).trans c13
  have wl := IntWalk.wrap64_in ((ks.length : Int) + 1) ⟨by omega, by have := hle.out; omega⟩
  have p1 : ((ks.length + 1 : Nat) : Int) = (ks.length : Int) + 1 := by omega
  replace hk := hide hk
  replace hlt := hide hlt
  replace ih := hide ih
  clear hr hc hz hmx ho hn
  go_enter Tryd.func16, Tryd.ntmps16
  go_wp2_with (first
    | (refine wpList_load_at rfl 30 _ rfl _ _ rfl _ _ (by with_reducible exact R0.out) Tryd.underlying30 rfl (exC_info _ _) ?_))
  have B1 : Hid (Below w.heap.size w ((w.alloc (exO nd (.slice (some ⟨b, 0, none⟩) ks.length (ks.length + 1)))).alloc (exO (nd7 ks.length) (.slice none 0 0)))) := hide (step B0.out _)
  have P1 : Hid (Blk ((w.alloc (exO nd (.slice (some ⟨b, 0, none⟩) ks.length (ks.length + 1)))).alloc (exO (nd7 ks.length) (.slice none 0 0))) w.heap.size (exC nd (.slice (some ⟨b, 0, none⟩) ks.length (ks.length + 1))) 30) := hide (P0.out.alloc _)
  clear x0 x2 x13 q13 hsn wl p1 X1 R0
  go_loopw [5] (fun i wr => ∃ (k : Nat), k ≤ ks.length ∧ i = .int .i64 k ∧ Hid (Below ((w.alloc (exO nd (.slice (some ⟨b, 0, none⟩) ks.length (ks.length + 1)))).alloc (exO (nd7 ks.length) (.slice none 0 0))).heap.size ((w.alloc (exO nd (.slice (some ⟨b, 0, none⟩) ks.length (ks.length + 1)))).alloc (exO (nd7 ks.length) (.slice none 0 0))) wr)) (fun i _ => ks.length - (intOf i).toNat)
  case atStart => exact ⟨0, Nat.zero_le _, rfl, Below.refl _ _⟩
  case round =>
    obtain ⟨k, hkl, rfl, HB⟩ := hrel
    have z13 := ((P1.out.keep HB.out).at' 13).trans c13
    by_cases hlt' : k < ks.length
    · have p0 : (k : Int) < (ks.length : Int) := by omega
      obtain ⟨cs, b1, hsub, hLy, hrk⟩ := hk.out.get k hlt'
      have bw := hide (next B1.out HB.out)
      have hl1 : ∀ x ∈ b1, x < w.heap.size := fun x hx => hlt.out x (List.mem_cons_of_mem _ (hsub x hx))
      have R1 := hide (range_of_block hrk (bw.out.block b (hlt.out b (List.mem_cons_self ..))))
      obtain ⟨aa, al, ac, rfl⟩ := hLy.cs
      have IH := hide (ih.out _ (List.getElem_mem hlt') _ wr b1 (hLy.move _ (fun x hx => bw.out.block x (hl1 x hx))) (fun x hx => Nat.lt_of_lt_of_le (hl1 x hx) bw.out.size) (hnk.out _ (List.getElem_mem hlt')))
      have wk := IntWalk.wrap64_in ((k : Int) + 1) ⟨by omega, by have := hle.out; omega⟩
      rw [Nat.zero_add] at R1
      generalize ks[k] = tk' at *
      clear hLy hrk hl1 hsub
      go_wp2_with (first
        | (refine wpList_load_at rfl 30 _ rfl _ _ rfl _ _ (by with_reducible exact R1.out) Tryd.underlying30 rfl (exC_info _ _) ?_)
        | (go_at_call 16; refine IH.out.mono ?_; rintro e w4 ⟨rfl, hb4⟩; have b4 := hide (next HB.out hb4); clear hb4))
      refine ⟨⟨k + 1, hlt', by rw [wk]; rfl, b4⟩, ?_⟩
      rw [wk]
      exact meas_lt hlt'
    · obtain rfl : k = ks.length := by omega
      go_wp2_with fail
      go_ret
      exact ⟨rfl, next B1.out HB.out⟩
end Go.Proofs.YtbpogngnhhkjbaaDoor.T9
namespace Go.Proofs.YtbpogngnhhkjbaaDoor.T9
open Go.RowKit Go.Sort
set_option linter.unusedVariables false

mutual
theorem Ow.lt {w : World} : ∀ (t : Ex) {v : Value} {bs : List Nat}, Ow w v t bs → ∀ x ∈ bs, x < w.heap.size
  | .mk nd ks, v, bs, h => by
    unfold Ow at h
    obtain ⟨a, len, cap, _, _, h⟩ := h
    rcases h with ⟨_, _, _, rfl⟩ | ⟨b, cells, bs', _, rfl, hc, _, _, hk⟩
    · intro x hx; cases hx
    · intro x hx
      rcases List.mem_cons.1 hx with rfl | hx
      · exact (Array.getElem?_eq_some_iff.1 hc).1
      · exact OwL.lt ks hk x hx
theorem OwL.lt {w : World} {b : Nat} : ∀ (ks : List Ex) {o : Nat} {bs : List Nat}, OwL w b o ks bs → ∀ x ∈ bs, x < w.heap.size
  | [], o, bs, h => by unfold OwL at h; subst h; intro x hx; cases hx
  | k :: r, o, bs, h => by
    unfold OwL at h
    obtain ⟨cs, b1, b2, rfl, h1, _, h3⟩ := h
    intro x hx
    rcases List.mem_append.1 hx with hx | hx
    · exact Ow.lt k h1 x hx
    · exact OwL.lt r h3 x hx
end
/-- The kids' blocks, kid by kid, apart. -/
theorem OwL.split {w : World} {b : Nat} : ∀ (ks : List Ex) {o : Nat} {bs : List Nat}, OwL w b o ks bs → bs.Nodup →
    ∃ bl : Nat → List Nat, (∀ i (hi : i < ks.length), (∃ cs, Ow w (.agg cs) ks[i] (bl i) ∧ w.rangeAt b (o + i * 14) cs.toList) ∧ (∀ x ∈ bl i, x ∈ bs) ∧ (bl i).Nodup) ∧ ∀ i j, i < ks.length → j < ks.length → i ≠ j → ∀ x ∈ bl i, x ∉ bl j
  | [], o, bs, h, hn => ⟨fun _ => [], fun i hi => absurd hi (Nat.not_lt_zero i), fun i j hi => absurd hi (Nat.not_lt_zero i)⟩
  | k :: r, o, bs, h, hn => by
    unfold OwL at h
    obtain ⟨cs, b1, b2, rfl, h1, h2, h3⟩ := h
    obtain ⟨n1, n2, n3⟩ := List.nodup_append.1 hn
    obtain ⟨bl, hA, hB⟩ := OwL.split r h3 n2
    refine ⟨fun i => match i with | 0 => b1 | i + 1 => bl i, fun i hi => ?_, fun i j hi hj hne x hx => ?_⟩
    · cases i with
      | zero => exact ⟨⟨cs, by simpa using h1, by simpa using h2⟩, fun x hx => List.mem_append_left _ hx, n1⟩
      | succ i =>
        obtain ⟨⟨cs', h4, h5⟩, h6, h7⟩ := hA i (by simpa using hi)
        exact ⟨⟨cs', by simpa only [List.getElem_cons_succ] using h4, by rw [show o + (i + 1) * 14 = o + 14 + i * 14 by omega]; exact h5⟩, fun x hx => List.mem_append_right _ (h6 x hx), h7⟩
    · cases i with
      | zero =>
        cases j with
        | zero => exact absurd rfl hne
        | succ j => exact fun hq => n3 x hx x ((hA j (by simpa using hj)).2.1 x hq) rfl
      | succ i =>
        cases j with
        | zero => exact fun hq => n3 x hq x ((hA i (by simpa using hi)).2.1 x hx) rfl
        | succ j => exact hB i j (by simpa using hi) (by simpa using hj) (fun e => hne (by rw [e])) x hx
theorem Chg.wide {m m' : Nat → Prop} {w w' : World} (h : Chg m w w') (hm : ∀ k, m k → m' k) : Chg m' w w' := ⟨h.os, h.tape, h.output, h.size, fun k hk hn => h.block k hk (fun e => hn (hm k e))⟩
theorem Chg.of_grown {m : Nat → Prop} {w w' : World} {r : Option Nat} (h : w.grownBy w' r) (hm : ∀ k, r = some k → m k) : Chg m w w' := ⟨h.os, h.tape, h.output, h.size, fun k hk hn => h.block k hk (fun e => hn (hm k e.symm))⟩
/-- The list's own block, whatever it holds. -/
def Shp (w : World) (a : Option Addr) (cap : Nat) : Prop := ∀ b, a = some ⟨b, 0, none⟩ → ∃ cur, w.heap[b]? = some (.cells cur 30 (0, 0)) ∧ cur.size = cap * 14
abbrev nd99 (i : Int) : Nd := ⟨99, 0, i, { data := #[115, 112, 111, 105, 108, 116] }, ⟨0, 0, false, false⟩, ⟨0, 0, false, false⟩, 0⟩
abbrev nd98 : Nd := ⟨98, 0, 0, { data := #[103, 114, 111, 119, 110] }, ⟨0, 0, false, false⟩, ⟨0, 0, false, false⟩, 0⟩
/-- One kid is written over. -/
def put99 (w : World) (b j : Nat) : World := w.setCells b (j * 14) (exC (nd99 j) (.slice none 0 0)).toList
def Th (w : World) (b j : Nat) : Prop := w.there b (j * 14) 14
theorem wpList_put99 {ops : Array Oper} {rest : List Oper} {op : Oper} {a : Act} {w : World} {Q : Exit → Act → World → Prop} {b j : Nat} (hgd : op.guard = none) (x y : Operand) (ho : op.op = .store 30 x y)
    (hx : a.eval x = .pointer (some ⟨b, j * 14, none⟩)) (hy : a.eval y = .agg #[.int .i64 99, .int .i64 0, .int .i64 (j : Int), .string { data := #[115, 112, 111, 105, 108, 116] }, .int .i64 0, .int .i64 0, .bool false, .bool false, .int .i64 0, .int .i64 0, .bool false, .bool false, .int .i64 0, .slice none 0 0]) (ht : Th w b j) (h : wpList Tryd.prog ops Q rest (a.put op.dst undef) (put99 w b j)) : wpList Tryd.prog ops Q (op :: rest) a w :=
  wpList_store_mid hgd 30 x y ho b (j * 14) (exC (nd99 j) (.slice none 0 0)) hx hy ht (exC_info _ _) (exC_one _ _ _ _) h
abbrev SpoilIs (t : Ex) : Prop := ∀ (v : Value) (w : World) (bs : List Nat), Ow w v t bs → bs.Nodup → nodesE t ≤ 512 → Calls Tryd.prog 17 #[v] w fun e w' => e = .returned (.tuple #[]) ∧ Chg (· ∈ bs) w w'
set_option maxHeartbeats 2000000 in
set_option maxRecDepth 100000 in
theorem spoil_any : ∀ t, SpoilIs t := by
  refine Ex.ind fun nd ks ih => ?_
  intro v w bs ho hnd hn
  have hlt := hide (Ow.lt _ ho)
  obtain ⟨a, len, cap, rfl, hl, hc⟩ := ho.un
  have hlen := hide hl
  have hle : Hid (len ≤ 511) := hide (by have := len_nodes ks; rw [nodesE] at hn; omega)
  have hnk : Hid (∀ k ∈ ks, nodesE k ≤ 512) := hide (fun k hk => by have := nodes_mem hk; rw [nodesE] at hn; omega)
  have c13 := (at14 nd (.slice a len cap)).c13
  have P0 := hide (Blk.new w (exC nd (.slice a len cap)) 30)
  have hsp : Hid (∃ bl : Nat → List Nat, (∀ i (hi : i < ks.length), ∃ b cs, a = some ⟨b, 0, none⟩ ∧ b ∈ bs ∧ (∀ j, j < ks.length → b ∉ bl j) ∧ Ow w (.agg cs) ks[i] (bl i) ∧ w.rangeAt b (i * 14) cs.toList ∧ (∀ x ∈ bl i, x ∈ bs) ∧ (bl i).Nodup) ∧ ∀ i j, i < ks.length → j < ks.length → i ≠ j → ∀ x ∈ bl i, x ∉ bl j) := hide (by
    rcases hc with ⟨_, h0, _, _⟩ | ⟨b, cells, bs', ha, rfl, hcell, hz, _, hk⟩
    · exact ⟨fun _ => [], fun i hi => by omega, fun i j hi => by omega⟩
    · obtain ⟨n1, n2⟩ := List.nodup_cons.1 hnd
      obtain ⟨bl, hA, hB⟩ := OwL.split ks hk n2
      refine ⟨bl, fun i hi => ?_, hB⟩
      obtain ⟨⟨cs, h1, h2⟩, h3, h4⟩ := hA i hi
      exact ⟨b, cs, ha, List.mem_cons_self .., fun j hj hq => n1 ((hA j hj).2.1 b hq), h1, by simpa using h2, fun x hx => List.mem_cons_of_mem _ (h3 x hx), h4⟩)
  have hcap : Hid ((a = none ∧ cap = 0 ∧ len = 0) ∨ ∃ b, a = some ⟨b, 0, none⟩ ∧ b ∈ bs ∧ len ≤ cap ∧ cap ≤ maxLen ∧ Shp w a cap) := hide (by
    rcases hc with ⟨h2, h0, h1, _⟩ | ⟨b, cells, bs', ha, rfl, hcell, hz, hle, hk⟩
    · exact .inl ⟨h2, h1, h0⟩
    · exact .inr ⟨b, ha, List.mem_cons_self .., hle.1, hle.2, fun b' e => by rw [ha] at e; cases e; exact ⟨cells, hcell, hz⟩⟩)
  have hnb : Hid (w.heap.size ∉ bs) := hide (fun h => Nat.lt_irrefl _ (hlt.out _ h))
  obtain ⟨bl, hA, hB⟩ := hsp.out
  replace hA := hide hA
  replace hB := hide hB
  replace ih := hide ih
  clear hc hl ho hnd hn hsp
  have hmn := ite_min
  go_enter Tryd.func17, Tryd.ntmps17
  go_wp2_with fail
  go_loopw [2] (fun i wr => ∃ (k : Nat), k ≤ len ∧ i = .int .i64 k ∧ Hid (Chg (fun x => ∃ j, j < k ∧ j < ks.length ∧ x ∈ bl j) (w.alloc (exO nd (.slice a len cap))) wr)) (fun i _ => len - (intOf i).toNat)
  case atStart => exact ⟨0, Nat.zero_le _, rfl, Chg.refl _ _⟩
  case round =>
    obtain ⟨k, hkl, rfl, HC⟩ := hrel
    have hbl : ∀ j, j < ks.length → ∀ x ∈ bl j, x ∈ bs := fun j hj => by obtain ⟨_, _, _, _, _, _, _, h, _⟩ := hA.out j hj; exact h
    have HCw : Hid (Chg (· ∈ bs) (w.alloc (exO nd (.slice a len cap))) wr) := hide (HC.out.wide (fun x ⟨j, _, h2, h3⟩ => hbl j h2 x h3))
    have z13 := ((HCw.out.blk P0.out hnb.out).at' 13).trans c13
    replace hbl := hide hbl
    by_cases hlt' : k < len
    · have p0 : (k : Int) < (len : Int) := by omega
      have hk1 : k < ks.length := by have := hlen.out; omega
      obtain ⟨b, cs, rfl, hbb, hbn, hOw, hrg, hsub, hnd⟩ := hA.out k hk1
      have hsz : ∀ x, x ∈ bs → x < (w.alloc (exO nd (.slice (some ⟨b, 0, none⟩) len cap))).heap.size := fun x hx => by have := hlt.out x hx; simp; omega
      have hal : ∀ x, x ∈ bs → (w.alloc (exO nd (.slice (some ⟨b, 0, none⟩) len cap))).heap[x]? = w.heap[x]? := fun x hx => Below.heap_alloc w _ x (hlt.out x hx)
      have hOw' : Ow wr (.agg cs) ks[k] (bl k) := hOw.move _ (fun x hx => (HC.out.block x (hsz x (hsub x hx)) (fun ⟨j, h1, h2, h3⟩ => hB.out k j hk1 h2 (by omega) x hx h3)).trans (hal x (hsub x hx)))
      have R1 := hide (range_of_block hrg ((HC.out.block b (hsz b hbb) (fun ⟨j, h1, h2, h3⟩ => hbn j h2 h3)).trans (hal b hbb)))
      obtain ⟨aa, al, ac, rfl⟩ := hOw'.cs
      have IH := hide (ih.out _ (List.getElem_mem hk1) _ wr _ hOw' hnd (hnk.out _ (List.getElem_mem hk1)))
      have wk := IntWalk.wrap64_in ((k : Int) + 1) ⟨by omega, by have := hle.out; omega⟩
      generalize ks[k] = tk' at *
      clear hOw hOw' hrg hsz hal hbb hbn hsub hnd HCw
      go_wp2_with (first
        | (refine wpList_load_at rfl 30 _ rfl _ _ rfl _ _ (by with_reducible exact R1.out) Tryd.underlying30 rfl (exC_info _ _) ?_)
        | (go_at_call 17; refine IH.out.mono ?_; rintro e w5 ⟨rfl, h5⟩; have C5 : Hid (Chg (fun x => ∃ j, j < k + 1 ∧ j < ks.length ∧ x ∈ bl j) (w.alloc (exO nd (.slice (some ⟨b, 0, none⟩) len cap))) w5) := hide ((HC.out.wide (fun x ⟨j, h1, h2, h3⟩ => ⟨j, by omega, h2, h3⟩)).trans (h5.wide (fun x hx => ⟨k, by omega, hk1, hx⟩))); clear h5))
      refine ⟨⟨k + 1, hlt', by rw [wk]; rfl, C5⟩, ?_⟩
      rw [wk]
      exact meas_lt hlt'
    · obtain rfl : k = len := by omega
      have S1 : Hid (Shp wr a cap) := hide (by
        rcases hcap.out with ⟨h0, _⟩ | ⟨b, ha, hbb, _, _, hs⟩
        · intro b hb; rw [h0] at hb; cases hb
        · intro b' hb'
          obtain ⟨cur, h1, h2⟩ := hs b' hb'
          have hb2 : b' ∈ bs := by rw [ha] at hb'; cases hb'; exact hbb
          refine ⟨cur, (HC.out.block b' (by have := hlt.out b' hb2; simp; omega) (fun ⟨j, _, h3, h4⟩ => ?_)).trans ((Below.heap_alloc w _ b' (hlt.out b' hb2)).trans h1), h2⟩
          obtain ⟨b3, _, ha3, _, hbn, _⟩ := hA.out j h3
          rw [hb'] at ha3; cases ha3
          exact hbn j h3 h4)
      obtain ⟨wa, rfl⟩ : ∃ wa, wa = wr := ⟨wr, rfl⟩
      clear HC
      go_wp2_with fail
      go_loopw [3] (fun i wr => ∃ (j : Nat), j ≤ k ∧ i = .int .i64 j ∧ Hid (Chg (· ∈ bs) (w.alloc (exO nd (.slice a k cap))) wr) ∧ Hid (Shp wr a cap)) (fun i _ => k - (intOf i).toNat)
      case atStart => exact ⟨0, Nat.zero_le _, rfl, HCw, S1⟩
      case round =>
        clear S1 HCw z13
        obtain ⟨j, hjl, rfl, HD, HS⟩ := hrel
        have z13 := ((HD.out.blk P0.out hnb.out).at' 13).trans c13
        by_cases hjt : j < k
        · have p1 : (j : Int) < (k : Int) := by omega
          rcases hcap.out with ⟨_, _, h0⟩ | ⟨b, rfl, hbb, hlc, hcm, _⟩
          · exfalso; omega
          obtain ⟨cur, hcur, hcs⟩ := HS.out b rfl
          have hth : Th wr b j := there_of_row hcur (by rw [hcs]; omega)
          have D2 : Hid (Chg (· ∈ bs) (w.alloc (exO nd (.slice (some ⟨b, 0, none⟩) k cap))) (put99 wr b j)) := hide (HD.out.trans (chg_setCells hbb _ _ _))
          have S2 : Hid (Shp (put99 wr b j) (some ⟨b, 0, none⟩) cap) := hide (fun b' e => by
            cases e
            obtain ⟨cs', h1, h2⟩ := row_setCells b 30 (exC (nd99 j) (.slice none 0 0)).toList (j * 14) wr cur hcur
            exact ⟨cs', h1, by rw [h2]; exact hcs⟩)
          have wj := IntWalk.wrap64_in ((j : Int) + 1) ⟨by omega, by have := hle.out; omega⟩
          replace hth := hide hth
          clear hcur hcs hlc hcm hbb
          go_wp2_with (first
            | (refine wpList_put99 (b := b) (j := j) rfl _ _ rfl rfl rfl (by with_reducible exact hth.out) ?_))
          refine ⟨⟨j + 1, hjt, by rw [wj]; rfl, D2, S2⟩, ?_⟩
          rw [wj]
          exact meas_lt hjt
        · obtain rfl : j = k := by omega
          obtain ⟨wb, rfl⟩ : ∃ wb, wb = wr := ⟨wr, rfl⟩
          have wl := IntWalk.wrap64_in ((j : Int) + 5000) ⟨by omega, by have := hle.out; omega⟩
          go_wp2_with fail
          try simp only [wl]
          clear wl
          go_loopw [4] (fun l wr => ∃ (m : Nat), m ≤ cap ∧ l = .slice a m cap ∧ Hid (Chg (· ∈ bs) (w.alloc (exO nd (.slice a j cap))) wr) ∧ Hid (Shp wr a cap)) (fun l _ => cap - lenOf l)
          case atStart => exact ⟨j, by rcases hcap.out with ⟨_, h1, h2⟩ | ⟨_, _, _, h, _⟩ <;> omega, rfl, HD, HS⟩
          case round =>
            clear HD HS z13
            obtain ⟨m, hmc, rfl, HD, HS⟩ := hrel
            by_cases hmt : (m : Int) < min (cap : Int) ((j : Int) + 5000)
            · have hmc2 : m < cap := by omega
              rcases hcap.out with ⟨_, h0, _⟩ | ⟨b, rfl, hbb, hlc, hcm, _⟩
              · exfalso; omega
              obtain ⟨cur, hcur, hcs⟩ := HS.out b rfl
              have hown : (wr.alloc (exO nd98 (.slice none 0 0))).ownsRow 0 30 14 (.slice (some ⟨b, 0, none⟩) m cap) m (cur.toList.take (m * 14)) := ⟨by rw [List.length_take, Array.length_toList, hcs]; omega, .inr ⟨b, cap, cur, rfl, Nat.zero_le _, (Below.heap_alloc wr _ b (Array.getElem?_eq_some_iff.1 hcur).1).trans hcur, hmc, hcm, hcs, rfl⟩⟩
              have hrg := hide (range_ex wr nd98 (.slice none 0 0))
              have hbw := hide ((Array.getElem?_eq_some_iff.1 hcur).1)
              replace hown := hide hown
              replace hbb := hide hbb
              clear hcur hcs
              go_wp2_with (first
                | (refine Go.Great.wpList_buildSliceTo rfl 22 30 1 _ rfl wr.heap.size rfl _ rfl Tryd.underlying22 (exC nd98 (.slice none 0 0)) (by kernel_rfl) ?_)
                | (at_builtin; refine wpList_fitX (g := b) (k := m) (cap := cap) (X := wr.heap.size) (n := nd98) (sa := none) (sl := 0) (sc := 0) rfl _ _ rfl rfl rfl hown.out hrg.out hmc2 ?_; intro w4 r1 r2; have D4 : Hid (Chg (· ∈ bs) (w.alloc (exO nd (.slice (some ⟨b, 0, none⟩) j cap))) w4) := hide ((HD.out.alloc _).trans (Chg.of_grown r2 (fun q e => by cases e; exact hbb.out))); have S4 : Hid (Shp w4 (some ⟨b, 0, none⟩) cap) := hide (fun b' e => by cases e; rcases r1.2 with ⟨e, _⟩ | ⟨g', cap', cur', e, _, h1, _, _, h2, _⟩; (cases e); (cases e; exact ⟨cur', h1, h2⟩)); clear r1 r2))
              first
                | exact ⟨⟨m + 1, hmc2, rfl, D4, S4⟩, by show cap - (m + 1) < cap - m; omega⟩
                | exact ⟨⟨_, _, _, _, _, _, _, _, _, ⟨m + 1, hmc2, rfl, D4, S4⟩, rfl⟩, by show cap - (m + 1) < cap - m; omega⟩
            · go_wp2_with fail
              refine Go.Great.bodyPost_end0 rfl rfl ?_
              exact ⟨rfl, (Chg.of_below (step (Below.refl _ _) _)).trans HD.out⟩
end Go.Proofs.YtbpogngnhhkjbaaDoor.T9
namespace Go.Proofs.YtbpogngnhhkjbaaDoor.T9
open Go.RowKit Go.Sort
set_option linter.unusedVariables false

set_option maxHeartbeats 2000000 in
set_option maxRecDepth 100000 in
theorem kept_any (t u : Ex) (v1 v2 : Value) (w : World) (bs : List Nat) (h1 : Ly w v1 t bs) (hnd : bs.Nodup) (hlt : ∀ x ∈ bs, x < w.heap.size) (hs : SmE t) (hn : nodesE t ≤ 512) (h2 : Tree w v2 u) (hsame : sameE t u = true) :
    Calls Tryd.prog 8 #[v1, v2] w fun e w' => e = .returned (.bool true) ∧ Chg (· ∈ bs) w w' := by
  obtain ⟨n1, ks⟩ := t
  obtain ⟨n2, ls⟩ := u
  have T1 : Tree w v1 (.mk n1 ks) := (Ly.ow _ h1).in' _ hlt hs
  obtain ⟨a1, len1, cap1, rfl, _, _, _, _⟩ := T1.un
  obtain ⟨a2, len2, cap2, rfl, _, _, _, _⟩ := h2.un
  have bel := hide (step (step (Below.refl w.heap.size w) (exO n1 (.slice a1 len1 cap1))) (exO n2 (.slice a2 len2 cap2)))
  have L1 := hide ((Blk.new w (exC n1 (.slice a1 len1 cap1)) 30).alloc (exO n2 (.slice a2 len2 cap2)))
  have L2 := hide (Blk.new1 w (exO n1 (.slice a1 len1 cap1)) (exC n2 (.slice a2 len2 cap2)) 30)
  have HE := hide (fun w' (h : Below w.heap.size w w') => eq_any (.mk n1 ks) (.mk n2 ls) _ _ w' (T1.step h) (h2.step h))
  rw [hsame] at HE
  have HM := hide (fun w' (h : Below w.heap.size w w') => marked_any (.mk n1 ks) _ w' bs (h1.move _ (fun x hx => h.block x (hlt x hx))) (fun x hx => Nat.lt_of_lt_of_le (hlt x hx) h.size) hn)
  have HS := hide (fun w' (h : Below w.heap.size w w') => spoil_any (.mk n1 ks) _ w' bs (Ly.ow _ (h1.move _ (fun x hx => h.block x (hlt x hx)))) hnd hn)
  clear h1 h2 T1 hsame hs hn hnd hlt
  go_enter Tryd.func8, Tryd.ntmps8
  go_wp2_with (first
    | (refine wpList_load_blk rfl 30 _ rfl _ rfl _ (by with_reducible exact L1.out) _ Tryd.underlying30 rfl (exC_info _ _) ?_)
    | (refine wpList_load_blk rfl 30 _ rfl _ rfl _ (by with_reducible exact L2.out) _ Tryd.underlying30 rfl (exC_info _ _) ?_)
    | (go_at_call 15; refine (HE.out _ bel.out).mono ?_; rintro e w1 ⟨rfl, hb⟩; have b1 := hide (next bel.out hb); have M1 := hide (L1.out.keep hb); clear hb)
    | (refine wpList_load_blk_g rfl 30 _ rfl _ rfl _ (by with_reducible exact M1.out) _ Tryd.underlying30 rfl (exC_info _ _) ?_)
    | (go_at_call 16; refine (HM.out _ b1.out).mono ?_; rintro e w2 ⟨rfl, hb⟩; have b2 := hide (next b1.out hb); have M2 := hide (M1.out.keep hb); clear hb)
    | (refine wpList_load_blk rfl 30 _ rfl _ rfl _ (by with_reducible exact M2.out) _ Tryd.underlying30 rfl (exC_info _ _) ?_)
    | (go_at_call 17; refine (HS.out _ b2.out).mono ?_; rintro e w3 ⟨rfl, h3⟩; have C3 := hide ((Chg.of_below b2.out).trans h3); clear h3))
  go_ret
  exact ⟨rfl, C3.out⟩
end Go.Proofs.YtbpogngnhhkjbaaDoor.T9
