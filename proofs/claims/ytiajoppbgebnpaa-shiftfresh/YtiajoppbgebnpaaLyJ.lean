/- Laid trees: every list in a block of its own, with a mark in the room behind it. quadrillelaw9.Spoil: what it leaves: nothing is written but the tree's own lists. -/
import Derived.Test.YtiajoppbgebnpaaRoJ
import Derived.Test.YtiajoppbgebnpaaPartsN9
namespace Go.Proofs.Ytiajoppbgebnpaa
open Go.RowKit Go.Sort
set_option linter.unusedVariables false

section
variable {w : World} {ops : Array Oper} {rest : List Oper} {o : Oper} {a : Act} {Q : Exit → Act → World → Prop} {base g k cap X : Nat} {xs : List Value} {n : Nd} {sa : Option Addr} {sl sc : Nat}
/-- A tree appended within the room. -/
theorem wpList_fitX (hg : o.guard = none) (s y : Operand) (hop : o.op = Op.call { callee := Callee.builtin Builtin.append, args := #[s, y], argTypes := #[30, 30] })
    (hs : a.eval s = .slice (some ⟨g, 0, none⟩) k cap) (hx : a.eval y = .slice (some ⟨X, 0, none⟩) 1 1) (hown : w.ownsRow base 37 14 (.slice (some ⟨g, 0, none⟩) k cap) k xs) (hc : w.rangeAt X 0 (exC n (.slice sa sl sc)).toList) (hlt : k < cap)
    (hK : ∀ w', w'.ownsRow base 37 14 (.slice (some ⟨g, 0, none⟩) (k + 1) cap) (k + 1) (xs ++ (exC n (.slice sa sl sc)).toList) → w.grownBy w' (some g) → wpList Try.prog ops Q rest (a.put o.dst (.slice (some ⟨g, 0, none⟩) (k + 1) cap)) w') : wpList Try.prog ops Q (o :: rest) a w := by
  obtain ⟨i0, hi, hz0, hz1, hz2⟩ := info_parts info_ex
  exact wpList_append_fits w hg s y 30 hop base 37 i0 14 Try.underlying30 hi hz1 g k cap xs hs hown ⟨X, 0, none⟩ 1 1 (exC n (.slice sa sl sc)).toList hx (exC_len _ _) (fun j u hj => by rw [Addr.add_mid, Nat.zero_add]; have := hc j u hj; rwa [Nat.zero_add] at this) (fun u hu => (Array.all_eq_true_iff_forall_mem.1 (exC_one n sa sl sc)) u (by simpa using hu)) hlt hK
end
def lenOf : Value → Nat
  | .slice _ m _ => m
  | _ => 0
abbrev nd7 (n : Int) : Nd := ⟨-7, 0, n, no, ⟨0, 0, false, false⟩, ⟨0, 0, false, false⟩, 0⟩
mutual
/-- The tree lies in memory, laid; the blocks of its lists. -/
def Ly (w : World) (v : Value) : Ex → List Nat → Prop
  | .mk nd ks, bs => ∃ b cells bs', v = exV nd (.slice (some ⟨b, 0, none⟩) ks.length (ks.length + 1)) ∧ bs = b :: bs' ∧ w.heap[b]? = some (.cells cells 37 (0, 0)) ∧ cells.size = (ks.length + 1) * 14 ∧ ks.length + 1 ≤ maxLen ∧ w.rangeAt b (ks.length * 14) (exC (nd7 ks.length) (.slice none 0 0)).toList ∧ LyL w b 0 ks bs'
def LyL (w : World) (b o : Nat) : List Ex → List Nat → Prop
  | [], bs => bs = []
  | k :: r, bs => ∃ cs b1 b2, bs = b1 ++ b2 ∧ Ly w (.agg cs) k b1 ∧ w.rangeAt b o cs.toList ∧ LyL w b (o + 14) r b2
end
theorem Ly.un {w : World} {v : Value} {nd : Nd} {ks : List Ex} {bs : List Nat} (h : Ly w v (.mk nd ks) bs) : ∃ b cells bs', v = exV nd (.slice (some ⟨b, 0, none⟩) ks.length (ks.length + 1)) ∧ bs = b :: bs' ∧ w.heap[b]? = some (.cells cells 37 (0, 0)) ∧ cells.size = (ks.length + 1) * 14 ∧ ks.length + 1 ≤ maxLen ∧ w.rangeAt b (ks.length * 14) (exC (nd7 ks.length) (.slice none 0 0)).toList ∧ LyL w b 0 ks bs' := by
  unfold Ly at h; exact h
mutual
theorem Ly.move {w w' : World} : ∀ (t : Ex) {v : Value} {bs : List Nat}, Ly w v t bs → (∀ k ∈ bs, w'.heap[k]? = w.heap[k]?) → Ly w' v t bs
  | .mk nd ks, v, bs, h, hm => by
    unfold Ly at h ⊢
    obtain ⟨b, cells, bs', hv, rfl, hc, hz, hle, hr, hk⟩ := h
    have hb := hm b (List.mem_cons_self ..)
    exact ⟨b, cells, bs', hv, rfl, hb.trans hc, hz, hle, range_of_block hr hb, LyL.move ks hk (fun k hk => hm k (List.mem_cons_of_mem _ hk)) (fun j => World.cell?_of_block hb)⟩
theorem LyL.move {w w' : World} {b : Nat} : ∀ (ks : List Ex) {o : Nat} {bs : List Nat}, LyL w b o ks bs → (∀ k ∈ bs, w'.heap[k]? = w.heap[k]?) → (∀ j, w'.cell? ⟨b, j, none⟩ = w.cell? ⟨b, j, none⟩) → LyL w' b o ks bs
  | [], o, bs, h, hm, hc => by unfold LyL at h ⊢; exact h
  | k :: r, o, bs, h, hm, hc => by
    unfold LyL at h ⊢
    obtain ⟨cs, b1, b2, rfl, h1, h2, h3⟩ := h
    exact ⟨cs, b1, b2, rfl, Ly.move k h1 (fun k hk => hm k (List.mem_append_left _ hk)), fun j v hv => (hc _).trans (h2 j v hv), LyL.move r h3 (fun k hk => hm k (List.mem_append_right _ hk)) hc⟩
end
mutual
theorem Ly.ow {w : World} : ∀ (t : Ex) {v : Value} {bs : List Nat}, Ly w v t bs → Ow w v t bs
  | .mk nd ks, v, bs, h => by
    unfold Ly at h; unfold Ow
    obtain ⟨b, cells, bs', hv, rfl, hc, hz, hle, hr, hk⟩ := h
    exact ⟨_, _, _, hv, rfl, .inr ⟨b, cells, bs', rfl, rfl, hc, hz, ⟨by omega, hle⟩, LyL.ow ks hk⟩⟩
theorem LyL.ow {w : World} {b : Nat} : ∀ (ks : List Ex) {o : Nat} {bs : List Nat}, LyL w b o ks bs → OwL w b o ks bs
  | [], o, bs, h => by unfold LyL at h; unfold OwL; exact h
  | k :: r, o, bs, h => by
    unfold LyL at h; unfold OwL
    obtain ⟨cs, b1, b2, rfl, h1, h2, h3⟩ := h
    exact ⟨cs, b1, b2, rfl, Ly.ow k h1, h2, LyL.ow r h3⟩
end
theorem LyL.get {w : World} {b : Nat} : ∀ {ks : List Ex} {o : Nat} {bs : List Nat}, LyL w b o ks bs → ∀ i (hi : i < ks.length), ∃ cs b1, (∀ x ∈ b1, x ∈ bs) ∧ Ly w (.agg cs) ks[i] b1 ∧ w.rangeAt b (o + i * 14) cs.toList
  | [], _, _, _, i, hi => absurd hi (Nat.not_lt_zero i)
  | k :: r, o, bs, h, 0, _ => by
    unfold LyL at h
    obtain ⟨cs, b1, b2, rfl, h1, h2, _⟩ := h
    exact ⟨cs, b1, fun x hx => List.mem_append_left _ hx, h1, by simpa using h2⟩
  | k :: r, o, bs, h, i + 1, hi => by
    unfold LyL at h
    obtain ⟨cs, b1, b2, rfl, _, _, h3⟩ := h
    obtain ⟨cs', c1, hs, h1, h2⟩ := LyL.get h3 i (by simpa using hi)
    exact ⟨cs', c1, fun x hx => List.mem_append_right _ (hs x hx), by simpa only [List.getElem_cons_succ] using h1, by rw [show o + (i + 1) * 14 = o + 14 + i * 14 by omega]; exact h2⟩
theorem Ly.lt {w : World} {v : Value} {t : Ex} {bs : List Nat} (h : Ly w v t bs) (hl : ∀ (x : Nat), x ∈ bs → x < w.heap.size) {w' : World} (hb : Below w.heap.size w w') : Ly w' v t bs := h.move _ (fun k hk => hb.block k (hl k hk))
theorem Ly.cs {w : World} {cs : Array Value} {t : Ex} {bs : List Nat} (h : Ly w (.agg cs) t bs) : ∃ a len cap, cs = exC t.nd (.slice a len cap) := (Ly.ow _ h).cs
/-- Laid trees behind their cells. -/
def LyK (w : World) : List (Array Value) → List Ex → List Nat → Prop
  | [], [], bs => bs = []
  | cs :: css, k :: r, bs => ∃ b1 b2, bs = b1 ++ b2 ∧ Ly w (.agg cs) k b1 ∧ LyK w css r b2
  | _, _, _ => False
theorem LyK.move {w w' : World} : ∀ {css : List (Array Value)} {ks : List Ex} {bs : List Nat}, LyK w css ks bs → (∀ k ∈ bs, w'.heap[k]? = w.heap[k]?) → LyK w' css ks bs
  | [], [], bs, h, hm => h
  | cs :: css, k :: r, bs, h, hm => by
    obtain ⟨b1, b2, rfl, h1, h2⟩ := h
    exact ⟨b1, b2, rfl, h1.move k (fun x hx => hm x (List.mem_append_left _ hx)), LyK.move h2 (fun x hx => hm x (List.mem_append_right _ hx))⟩
  | [], k :: r, bs, h, hm => h.elim
  | cs :: css, [], bs, h, hm => h.elim
theorem LyK.snoc {w : World} : ∀ {css : List (Array Value)} {ks : List Ex} {bs : List Nat} {cs : Array Value} {k : Ex} {bk : List Nat}, LyK w css ks bs → Ly w (.agg cs) k bk → LyK w (css ++ [cs]) (ks ++ [k]) (bs ++ bk)
  | [], [], bs, cs, k, bk, h, hk => by
    have : bs = [] := h
    subst this
    exact ⟨bk, [], by simp, hk, rfl⟩
  | c :: css, x :: r, bs, cs, k, bk, h, hk => by
    obtain ⟨b1, b2, rfl, h1, h2⟩ := h
    exact ⟨b1, b2 ++ bk, by simp, h1, LyK.snoc h2 hk⟩
  | [], x :: r, bs, cs, k, bk, h, hk => h.elim
  | c :: css, [], bs, cs, k, bk, h, hk => h.elim
theorem LyK.len {w : World} : ∀ {css : List (Array Value)} {ks : List Ex} {bs : List Nat}, LyK w css ks bs → css.length = ks.length ∧ ∀ cs ∈ css, cs.toList.length = 14
  | [], [], bs, h => ⟨rfl, fun cs hc => by cases hc⟩
  | c :: css, x :: r, bs, h => by
    obtain ⟨b1, b2, rfl, h1, h2⟩ := h
    obtain ⟨l1, l2⟩ := LyK.len h2
    refine ⟨by simp [l1], fun cs hc => ?_⟩
    rcases List.mem_cons.1 hc with rfl | hc
    · obtain ⟨a, l, cp, rfl⟩ := h1.cs
      exact exC_len _ _
    · exact l2 cs hc
  | [], x :: r, bs, h => h.elim
  | c :: css, [], bs, h => h.elim
theorem LyK.row {w : World} {g : Nat} : ∀ {css : List (Array Value)} {ks : List Ex} {bs : List Nat} {o : Nat}, LyK w css ks bs → (∀ j v, (flX css)[j]? = some v → w.cell? ⟨g, o + j, none⟩ = some v) → LyL w g o ks bs
  | [], [], bs, o, h, hc => by unfold LyL; exact h
  | c :: css, x :: r, bs, o, h, hc => by
    obtain ⟨b1, b2, rfl, h1, h2⟩ := h
    have hl : c.toList.length = 14 := by obtain ⟨a, l, cp, rfl⟩ := h1.cs; exact exC_len _ _
    have hf : flX (c :: css) = c.toList ++ flX css := rfl
    unfold LyL
    refine ⟨c, b1, b2, rfl, h1, fun j v hv => hc j v ?_, LyK.row h2 (fun j v hv => ?_)⟩
    · rw [hf, List.getElem?_append_left (List.getElem?_eq_some_iff.1 hv).1]; exact hv
    · have := hc (14 + j) v (by rw [hf, List.getElem?_append_right (by omega), show 14 + j - c.toList.length = j by omega]; exact hv)
      rwa [show o + (14 + j) = o + 14 + j by omega] at this
  | [], x :: r, bs, o, h, hc => h.elim
  | c :: css, [], bs, o, h, hc => h.elim
theorem flX_snoc (css : List (Array Value)) (c : Array Value) : flX (css ++ [c]) = flX css ++ c.toList := by simp [flX]
theorem flX_len {w : World} {css : List (Array Value)} {ks : List Ex} {bs : List Nat} (h : LyK w css ks bs) : (flX css).length = css.length * 14 := by
  have := h.len.2
  clear h
  induction css with
  | nil => rfl
  | cons c r ih => simp only [flX, List.flatMap_cons, List.length_append, List.length_cons] at ih ⊢; have h1 := this c (List.mem_cons_self ..); have h2 := ih (fun x hx => this x (List.mem_cons_of_mem _ hx)); omega
/-- While the kids are laid. -/
structure LySt (w1 : World) (g cap : Nat) (ks : List Ex) (k : Nat) (wr : World) (css : List (Array Value)) (bs : List Nat) : Prop where
  low : Below w1.heap.size w1 wr
  row : wr.ownsRow w1.heap.size 37 14 (.slice (some ⟨g, 0, none⟩) k cap) k (flX css)
  kids : LyK wr css (ks.take k) bs
  nd : bs.Nodup
  new : ∀ x ∈ bs, w1.heap.size ≤ x ∧ x < wr.heap.size ∧ x ≠ g
theorem LySt.at' {w1 : World} {g cap : Nat} {ks : List Ex} {k : Nat} {wr : World} {css : List (Array Value)} {bs : List Nat} (h : LySt w1 g cap ks k wr css bs) : w1.heap.size ≤ g ∧ g < wr.heap.size := owns_lt h.row g rfl
theorem LySt.more {w1 : World} {g cap : Nat} {ks : List Ex} {k : Nat} {wr : World} {css : List (Array Value)} {bs : List Nat} (h : LySt w1 g cap ks k wr css bs) (hk : k < ks.length) {w2 w3 : World} {n : Nd} {s : Value} {bk : List Nat}
    (hN : Ly w2 (exV n s) ks[k] bk) (hNd : bk.Nodup) (hNa : ∀ x ∈ bk, wr.heap.size ≤ x ∧ x < w2.heap.size) (hb : Below wr.heap.size wr w2) (hr : w3.ownsRow w1.heap.size 37 14 (.slice (some ⟨g, 0, none⟩) (k + 1) cap) (k + 1) (flX css ++ (exC n s).toList)) (hg : (w2.alloc (exO n s)).grownBy w3 (some g)) :
    LySt w1 g cap ks (k + 1) w3 (css ++ [exC n s]) (bs ++ bk) := by
  have hal : (w2.alloc (exO n s)).heap.size = w2.heap.size + 1 := by simp
  have hs2 := hb.size
  have hs3 := hg.size
  obtain ⟨hg1, hg2⟩ := h.at'
  have hkeep : ∀ x, x < w2.heap.size → x ≠ g → w3.heap[x]? = w2.heap[x]? := fun x hx hne => (hg.block x (by omega) (fun e => hne (by cases e; rfl))).trans (Below.heap_alloc w2 _ x hx)
  refine ⟨?_, by rw [flX_snoc]; exact hr, ?_, ?_, ?_⟩
  · have h1 : Below w1.heap.size w1 w2 := h.low.trans (hb.mono h.low.size)
    exact ⟨hg.os.trans h1.os, hg.tape.trans h1.tape, hg.output.trans h1.output, by have := h1.size; omega, fun x hx => (hkeep x (by have := h1.size; omega) (by omega)).trans (h1.block x hx)⟩
  · rw [List.take_succ_eq_append_getElem hk]
    refine LyK.snoc (h.kids.move (fun x hx => ?_)) (hN.move _ (fun x hx => hkeep x (hNa x hx).2 (by have := (hNa x hx).1; omega)))
    have := h.new x hx
    exact (hkeep x (by omega) this.2.2).trans (hb.block x this.2.1)
  · exact List.nodup_append.2 ⟨h.nd, hNd, fun x hx y hy e => by have := (h.new x hx).2.1; have := (hNa y hy).1; omega⟩
  · intro x hx
    rcases List.mem_append.1 hx with hx | hx
    · have := h.new x hx; exact ⟨this.1, by omega, this.2.2⟩
    · have q := hNa x hx; have := h.low.size; exact ⟨by omega, by omega, by omega⟩
/-- The mark is laid: the tree stands. -/
theorem LySt.fin {w1 : World} {g : Nat} {nd : Nd} {ks : List Ex} {wr w3 : World} {css : List (Array Value)} {bs : List Nat} (h : LySt w1 g (ks.length + 1) ks ks.length wr css bs)
    (hr : w3.ownsRow w1.heap.size 37 14 (.slice (some ⟨g, 0, none⟩) (ks.length + 1) (ks.length + 1)) (ks.length + 1) (flX css ++ (exC (nd7 ks.length) (.slice none 0 0)).toList)) (hg : (wr.alloc (exO (nd7 ks.length) (.slice none 0 0))).grownBy w3 (some g)) :
    Ly w3 (exV nd (.slice (some ⟨g, 0, none⟩) ks.length (ks.length + 1))) (.mk nd ks) (g :: bs) ∧ (g :: bs).Nodup ∧ (∀ x ∈ g :: bs, w1.heap.size ≤ x ∧ x < w3.heap.size) ∧ Below w1.heap.size w1 w3 := by
  have hs3 := hg.size
  have hal : (wr.alloc (exO (nd7 ks.length) (.slice none 0 0))).heap.size = wr.heap.size + 1 := by simp
  obtain ⟨hg1, hg2⟩ := h.at'
  have hkeep : ∀ x, x < wr.heap.size → x ≠ g → w3.heap[x]? = wr.heap[x]? := fun x hx hne => (hg.block x (by omega) (fun e => hne (by cases e; rfl))).trans (Below.heap_alloc wr _ x hx)
  have hk := h.kids
  rw [List.take_length] at hk
  have hfl := flX_len hk
  have hcl := hk.len.1
  rcases hr.2 with ⟨e, _⟩ | ⟨g', cap', cur, e, _, hcur, hle, hmx, hcs, htk⟩
  · cases e
  · cases e
    have hall : cur.toList = flX css ++ (exC (nd7 ks.length) (.slice none 0 0)).toList := by rw [← htk, List.take_of_length_le (by rw [Array.length_toList, hcs]; omega)]
    refine ⟨?_, List.nodup_cons.2 ⟨fun hx => (h.new g hx).2.2 rfl, h.nd⟩, fun x hx => ?_, ?_⟩
    · unfold Ly
      refine ⟨g, cur, bs, rfl, rfl, hcur, hcs, hmx, fun j v hv => ?_, ?_⟩
      · rw [cell_of_row w3 g _ cur _ _ hcur, ← Array.getElem?_toList, hall, List.getElem?_append_right (by rw [hfl, hcl]; omega), hfl, hcl, show ks.length * 14 + j - ks.length * 14 = j by omega]
        exact hv
      · refine (hk.move (fun x hx => hkeep x (h.new x hx).2.1 (h.new x hx).2.2)).row (fun j v hv => ?_)
        rw [Nat.zero_add, cell_of_row w3 g _ cur _ _ hcur, ← Array.getElem?_toList, hall, List.getElem?_append_left (List.getElem?_eq_some_iff.1 hv).1]
        exact hv
    · rcases List.mem_cons.1 hx with rfl | hx
      · exact ⟨hg1, by omega⟩
      · have := h.new x hx; exact ⟨this.1, by omega⟩
    · exact ⟨hg.os.trans h.low.os, hg.tape.trans h.low.tape, hg.output.trans h.low.output, by have := h.low.size; omega, fun x hx => (hkeep x (by have := h.low.size; omega) (by omega)).trans (h.low.block x hx)⟩
end Go.Proofs.Ytiajoppbgebnpaa
namespace Go.Proofs.Ytiajoppbgebnpaa
open Go.RowKit Go.Sort
set_option linter.unusedVariables false

mutual
theorem Ow.lt {w : World} : ∀ (t : Ex) {v : Value} {bs : List Nat}, Ow w v t bs → ∀ x ∈ bs, x < w.heap.size
  | .mk nd ks, v, bs, h => by
    unfold Ow at h
    obtain ⟨a, len, cap, _, _, h⟩ := h
    rcases h with ⟨_, _, _, rfl⟩ | ⟨b, cells, bs', _, rfl, hc, _, _, hk⟩
    · intro x hx; cases hx
    · intro x hx
      rcases List.mem_cons.1 hx with rfl | hx
      · exact (Array.getElem?_eq_some_iff.1 hc).1
      · exact OwL.lt ks hk x hx
theorem OwL.lt {w : World} {b : Nat} : ∀ (ks : List Ex) {o : Nat} {bs : List Nat}, OwL w b o ks bs → ∀ x ∈ bs, x < w.heap.size
  | [], o, bs, h => by unfold OwL at h; subst h; intro x hx; cases hx
  | k :: r, o, bs, h => by
    unfold OwL at h
    obtain ⟨cs, b1, b2, rfl, h1, _, h3⟩ := h
    intro x hx
    rcases List.mem_append.1 hx with hx | hx
    · exact Ow.lt k h1 x hx
    · exact OwL.lt r h3 x hx
end
/-- The kids' blocks, kid by kid, apart. -/
theorem OwL.split {w : World} {b : Nat} : ∀ (ks : List Ex) {o : Nat} {bs : List Nat}, OwL w b o ks bs → bs.Nodup →
    ∃ bl : Nat → List Nat, (∀ i (hi : i < ks.length), (∃ cs, Ow w (.agg cs) ks[i] (bl i) ∧ w.rangeAt b (o + i * 14) cs.toList) ∧ (∀ x ∈ bl i, x ∈ bs) ∧ (bl i).Nodup) ∧ ∀ i j, i < ks.length → j < ks.length → i ≠ j → ∀ x ∈ bl i, x ∉ bl j
  | [], o, bs, h, hn => ⟨fun _ => [], fun i hi => absurd hi (Nat.not_lt_zero i), fun i j hi => absurd hi (Nat.not_lt_zero i)⟩
  | k :: r, o, bs, h, hn => by
    unfold OwL at h
    obtain ⟨cs, b1, b2, rfl, h1, h2, h3⟩ := h
    obtain ⟨n1, n2, n3⟩ := List.nodup_append.1 hn
    obtain ⟨bl, hA, hB⟩ := OwL.split r h3 n2
    refine ⟨fun i => match i with | 0 => b1 | i + 1 => bl i, fun i hi => ?_, fun i j hi hj hne x hx => ?_⟩
    · cases i with
      | zero => exact ⟨⟨cs, by simpa using h1, by simpa using h2⟩, fun x hx => List.mem_append_left _ hx, n1⟩
      | succ i =>
        obtain ⟨⟨cs', h4, h5⟩, h6, h7⟩ := hA i (by simpa using hi)
        exact ⟨⟨cs', by simpa only [List.getElem_cons_succ] using h4, by rw [show o + (i + 1) * 14 = o + 14 + i * 14 by omega]; exact h5⟩, fun x hx => List.mem_append_right _ (h6 x hx), h7⟩
    · cases i with
      | zero =>
        cases j with
        | zero => exact absurd rfl hne
        | succ j => exact fun hq => n3 x hx x ((hA j (by simpa using hj)).2.1 x hq) rfl
      | succ i =>
        cases j with
        | zero => exact fun hq => n3 x hq x ((hA i (by simpa using hi)).2.1 x hx) rfl
        | succ j => exact hB i j (by simpa using hi) (by simpa using hj) (fun e => hne (by rw [e])) x hx
theorem Chg.wide {m m' : Nat → Prop} {w w' : World} (h : Chg m w w') (hm : ∀ k, m k → m' k) : Chg m' w w' := ⟨h.os, h.tape, h.output, h.size, fun k hk hn => h.block k hk (fun e => hn (hm k e))⟩
theorem Chg.of_grown {m : Nat → Prop} {w w' : World} {r : Option Nat} (h : w.grownBy w' r) (hm : ∀ k, r = some k → m k) : Chg m w w' := ⟨h.os, h.tape, h.output, h.size, fun k hk hn => h.block k hk (fun e => hn (hm k e.symm))⟩
/-- The list's own block, whatever it holds. -/
def Shp (w : World) (a : Option Addr) (cap : Nat) : Prop := ∀ b, a = some ⟨b, 0, none⟩ → ∃ cur, w.heap[b]? = some (.cells cur 37 (0, 0)) ∧ cur.size = cap * 14
abbrev nd99 (i : Int) : Nd := ⟨99, 0, i, { data := #[115, 112, 111, 105, 108, 116] }, ⟨0, 0, false, false⟩, ⟨0, 0, false, false⟩, 0⟩
abbrev nd98 : Nd := ⟨98, 0, 0, { data := #[103, 114, 111, 119, 110] }, ⟨0, 0, false, false⟩, ⟨0, 0, false, false⟩, 0⟩
/-- One kid is written over. -/
def put99 (w : World) (b j : Nat) : World := w.setCells b (j * 14) (exC (nd99 j) (.slice none 0 0)).toList
def Th (w : World) (b j : Nat) : Prop := w.there b (j * 14) 14
theorem wpList_put99 {ops : Array Oper} {rest : List Oper} {op : Oper} {a : Act} {w : World} {Q : Exit → Act → World → Prop} {b j : Nat} (hgd : op.guard = none) (x y : Operand) (ho : op.op = .store 37 x y)
    (hx : a.eval x = .pointer (some ⟨b, j * 14, none⟩)) (hy : a.eval y = .agg #[.int .i64 99, .int .i64 0, .int .i64 (j : Int), .string { data := #[115, 112, 111, 105, 108, 116] }, .int .i64 0, .int .i64 0, .bool false, .bool false, .int .i64 0, .int .i64 0, .bool false, .bool false, .int .i64 0, .slice none 0 0]) (ht : Th w b j) (h : wpList Try.prog ops Q rest (a.put op.dst undef) (put99 w b j)) : wpList Try.prog ops Q (op :: rest) a w :=
  wpList_store_mid hgd 37 x y ho b (j * 14) (exC (nd99 j) (.slice none 0 0)) hx hy ht (exC_info _ _) (exC_one _ _ _ _) h
end Go.Proofs.Ytiajoppbgebnpaa
