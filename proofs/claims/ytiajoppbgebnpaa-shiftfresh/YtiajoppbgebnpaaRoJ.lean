/- Lists of trees of one's own that grow; quadrilleref9.Own. quadrilleref9.Own: a tree in memory of its own, its lists grown one by one. -/
import Derived.Test.YtiajoppbgebnpaaApp9
import Derived.Test.YtiajoppbgebnpaaCopyT9
import Derived.Great.Walk
namespace Go.Proofs.Ytiajoppbgebnpaa
open Go.RowKit Go.Sort
set_option linter.unusedVariables false

def flX (css : List (Array Value)) : List Value := css.flatMap (·.toList)
/-- A list of structs of one's own. -/
def RowX (w : World) (B : Nat) (v : Value) (css : List (Array Value)) : Prop := w.ownsRow B 37 14 v css.length (flX css)
/-- Trees of one's own behind their cells. -/
def OwK (w : World) : List (Array Value) → List Ex → List Nat → Prop
  | [], [], bs => bs = []
  | cs :: css, k :: r, bs => ∃ b1 b2, bs = b1 ++ b2 ∧ Ow w (.agg cs) k b1 ∧ OwK w css r b2
  | _, _, _ => False
theorem OwK.move {w w' : World} : ∀ {css : List (Array Value)} {ks : List Ex} {bs : List Nat}, OwK w css ks bs → (∀ k ∈ bs, w'.heap[k]? = w.heap[k]?) → OwK w' css ks bs
  | [], [], bs, h, hm => h
  | cs :: css, k :: r, bs, h, hm => by
    obtain ⟨b1, b2, rfl, h1, h2⟩ := h
    exact ⟨b1, b2, rfl, h1.move k (fun x hx => hm x (List.mem_append_left _ hx)), OwK.move h2 (fun x hx => hm x (List.mem_append_right _ hx))⟩
  | [], k :: r, bs, h, hm => h.elim
  | cs :: css, [], bs, h, hm => h.elim
theorem OwK.snoc {w : World} : ∀ {css : List (Array Value)} {ks : List Ex} {bs : List Nat} {cs : Array Value} {k : Ex} {bk : List Nat}, OwK w css ks bs → Ow w (.agg cs) k bk → OwK w (css ++ [cs]) (ks ++ [k]) (bs ++ bk)
  | [], [], bs, cs, k, bk, h, hk => by
    have : bs = [] := h
    subst this
    exact ⟨bk, [], by simp, hk, rfl⟩
  | c :: css, x :: r, bs, cs, k, bk, h, hk => by
    obtain ⟨b1, b2, rfl, h1, h2⟩ := h
    exact ⟨b1, b2 ++ bk, by simp, h1, OwK.snoc h2 hk⟩
  | [], x :: r, bs, cs, k, bk, h, hk => h.elim
  | c :: css, [], bs, cs, k, bk, h, hk => h.elim
theorem OwK.len {w : World} : ∀ {css : List (Array Value)} {ks : List Ex} {bs : List Nat}, OwK w css ks bs → css.length = ks.length ∧ ∀ cs ∈ css, cs.toList.length = 14
  | [], [], bs, h => ⟨rfl, fun cs hc => by cases hc⟩
  | c :: css, x :: r, bs, h => by
    obtain ⟨b1, b2, rfl, h1, h2⟩ := h
    obtain ⟨l1, l2⟩ := OwK.len h2
    refine ⟨by simp [l1], fun cs hc => ?_⟩
    rcases List.mem_cons.1 hc with rfl | hc
    · obtain ⟨a, l, cp, rfl⟩ := h1.cs
      exact exC_len _ _
    · exact l2 cs hc
  | [], x :: r, bs, h => h.elim
  | c :: css, [], bs, h => h.elim
theorem OwK.row {w : World} {g : Nat} : ∀ {css : List (Array Value)} {ks : List Ex} {bs : List Nat} {o : Nat}, OwK w css ks bs → (∀ j v, (flX css)[j]? = some v → w.cell? ⟨g, o + j, none⟩ = some v) → OwL w g o ks bs
  | [], [], bs, o, h, hc => by unfold OwL; exact h
  | c :: css, x :: r, bs, o, h, hc => by
    obtain ⟨b1, b2, rfl, h1, h2⟩ := h
    have hl : c.toList.length = 14 := by obtain ⟨a, l, cp, rfl⟩ := h1.cs; exact exC_len _ _
    have hf : flX (c :: css) = c.toList ++ flX css := rfl
    unfold OwL
    refine ⟨c, b1, b2, rfl, h1, fun j v hv => hc j v ?_, OwK.row h2 (fun j v hv => ?_)⟩
    · rw [hf, List.getElem?_append_left (List.getElem?_eq_some_iff.1 hv).1]; exact hv
    · have := hc (14 + j) v (by rw [hf, List.getElem?_append_right (by omega), show 14 + j - c.toList.length = j by omega]; exact hv)
      rwa [show o + (14 + j) = o + 14 + j by omega] at this
  | [], x :: r, bs, o, h, hc => h.elim
  | c :: css, [], bs, o, h, hc => h.elim
/-- A list of one's own makes a tree of one's own. -/
theorem tree_row {w : World} {B : Nat} {v : Value} {css : List (Array Value)} {nd : Nd} {ks : List Ex} {bs : List Nat} (hr : RowX w B v css) (hk : OwK w css ks bs) : ∃ a len cap, v = .slice a len cap ∧ Ow w (exV nd v) (.mk nd ks) (v.ownBlock.toList ++ bs) := by
  obtain ⟨hl, _⟩ := hk.len
  rcases hr.2 with ⟨rfl, h0⟩ | ⟨g, cap, cur, rfl, _, hg, hc, hmx, hz, ht⟩
  · obtain rfl : css = [] := List.eq_nil_of_length_eq_zero h0
    obtain rfl : ks = [] := List.eq_nil_of_length_eq_zero (by rw [← hl]; rfl)
    have : bs = [] := hk
    subst this
    exact ⟨_, _, _, rfl, by unfold Ow; exact ⟨_, _, _, rfl, rfl, .inl ⟨rfl, rfl, rfl, rfl⟩⟩⟩
  · refine ⟨_, _, _, rfl, ?_⟩
    unfold Ow
    refine ⟨_, _, _, rfl, hl, .inr ⟨g, cur, bs, rfl, rfl, hg, hz, ⟨hc, hmx⟩, hk.row (fun j v hv => ?_)⟩⟩
    rw [Nat.zero_add, cell_of_row w g j cur _ _ hg, ← Array.getElem?_toList]
    rw [← ht, List.getElem?_take] at hv
    split at hv
    · exact hv
    · cases hv
section
variable {w : World} {ops : Array Oper} {rest : List Oper} {o : Oper} {a : Act} {Q : Exit → Act → World → Prop} {B X : Nat} {v : Value} {css : List (Array Value)} {n : Nd} {sa : Option Addr} {sl sc : Nat}
theorem run_appX (ty : TypeId) (hown : RowX w B v css) (hc : w.rangeAt X 0 (exC n (.slice sa sl sc)).toList) (hl : css.length < 1000000) (hB : B ≤ w.heap.size) :
    ∃ v' w', (Builtin.append_ #[30, 30] ty #[v, .slice (some ⟨X, 0, none⟩) 1 1]).run Try.prog w = .ok v' w' ∧ RowX w' B v' (css ++ [exC n (.slice sa sl sc)]) ∧ w.grownBy w' v.ownBlock ∧ (v'.ownBlock = v.ownBlock ∨ v'.ownBlock = some w.heap.size) := by
  obtain ⟨i0, hi, hz0, hz1, hz2⟩ := info_parts info_ex
  obtain ⟨v', w', h1, h2, h3, _, h4⟩ := run_append_own_at (P := Try.prog) w B 30 ty 37 i0 _ 14 120 Try.underlying30 hi hz0 hz1 hz2 rfl (by decide) v css.length (flX css) hown
    ⟨X, 0, none⟩ 1 1 (exC n (.slice sa sl sc)).toList rfl (fun j u hj => by rw [Addr.add_mid, Nat.zero_add]; have := hc j u hj; rwa [Nat.zero_add] at this) (fun u hu => (Array.all_eq_true_iff_forall_mem.1 (exC_one n sa sl sc)) u (by simpa using hu)) (by unfold maxLen; omega) (by omega) hB
  exact ⟨v', w', h1, by unfold RowX; rw [List.length_append]; simpa [flX] using h2, h3, h4⟩
theorem wpList_appX (hg : o.guard = none) (s y : Operand) (hop : o.op = Op.call { callee := Callee.builtin Builtin.append, args := #[s, y], argTypes := #[30, 30] })
    (hs : a.eval s = v) (hx : a.eval y = .slice (some ⟨X, 0, none⟩) 1 1) (hown : RowX w B v css) (hc : w.rangeAt X 0 (exC n (.slice sa sl sc)).toList) (hl : css.length < 1000000) (hB : B ≤ w.heap.size)
    (hK : ∀ v' w', RowX w' B v' (css ++ [exC n (.slice sa sl sc)]) → w.grownBy w' v.ownBlock → (v'.ownBlock = v.ownBlock ∨ v'.ownBlock = some w.heap.size) → wpList Try.prog ops Q rest (a.put o.dst v') w') : wpList Try.prog ops Q (o :: rest) a w := by
  refine wpList_plain hg fun K' hK' => ?_
  obtain ⟨v', w', hrun, r1, r2, r3⟩ := run_appX o.type hown hc hl hB
  unfold Oper.wp
  simp [execOp, hop, resolve, invoke, builtin, hs, hx, hrun, Result.andThen]
  exact hK' _ _ (hK v' w' r1 r2 r3)
end
theorem owns_shape9 {w : World} {B : Nat} {e : TypeId} {z : Nat} {v : Value} {n : Nat} {xs : List Value} (h : w.ownsRow B e z v n xs) : ∃ a l c, v = .slice a l c := by
  rcases h.2 with ⟨rfl, _⟩ | ⟨g, cap, cur, rfl, _⟩
  · exact ⟨_, _, _, rfl⟩
  · exact ⟨_, _, _, rfl⟩
theorem built1 (n : Nd) (s : Value) : Try.prog.builtSlice 37 1 [(0, exV n s)] = some (exC n s) := by kernel_rfl
/-- Its own list is a row of one's own. -/
def OwnR (w w' : World) (s : Value) (ks : List Ex) (bs : List Nat) : Prop := ∃ css b2, RowX w' w.heap.size s css ∧ OwK w' css ks b2 ∧ bs = s.ownBlock.toList ++ b2
theorem OwnR.keep {w w' w2 : World} {s : Value} {ks : List Ex} {bs : List Nat} (h : OwnR w w' s ks bs) (hm : ∀ k ∈ bs, w2.heap[k]? = w'.heap[k]?) : OwnR w w2 s ks bs := by
  obtain ⟨css, b2, h1, h2, rfl⟩ := h
  exact ⟨css, b2, owns_keep h1 (fun k hk => hm k (List.mem_append_left _ (by simp [hk]))), h2.move (fun k hk => hm k (List.mem_append_right _ hk)), rfl⟩
theorem owns_base {w : World} {B B' : Nat} {e : TypeId} {z : Nat} {v : Value} {n : Nat} {xs : List Value} (h : w.ownsRow B e z v n xs) (hb : B' ≤ B) : w.ownsRow B' e z v n xs := by
  refine ⟨h.1, ?_⟩
  rcases h.2 with h2 | ⟨g, cap, cur, rfl, h1, h2⟩
  · exact .inl h2
  · exact .inr ⟨g, cap, cur, rfl, Nat.le_trans hb h1, h2⟩
theorem OwnR.base {w w0 w' : World} {s : Value} {ks : List Ex} {bs : List Nat} (h : OwnR w w' s ks bs) (hb : w0.heap.size ≤ w.heap.size) : OwnR w0 w' s ks bs := by
  obtain ⟨css, b2, h1, h2, rfl⟩ := h
  exact ⟨css, b2, owns_base h1 hb, h2, rfl⟩
/-- What Own answers. -/
def OwnP (w : World) (t : Ex) (e : Ending) (w' : World) : Prop := ∃ a len cap bs, e = .returned (exV t.nd (.slice a len cap)) ∧ New w w' (exV t.nd (.slice a len cap)) t bs ∧ Below w.heap.size w w' ∧ OwnR w w' (.slice a len cap) t.kids bs
/-- While the kids are gone over. -/
structure OnSt (w1 : World) (ks : List Ex) (k : Nat) (wr : World) (v : Value) (css : List (Array Value)) (bs : List Nat) : Prop where
  low : Below w1.heap.size w1 wr
  row : RowX wr w1.heap.size v css
  kids : OwK wr css (ks.take k) bs
  nd : bs.Nodup
  new : ∀ x ∈ bs, w1.heap.size ≤ x ∧ x < wr.heap.size ∧ v.ownBlock ≠ some x
/-- One more. -/
theorem OnSt.step {w1 : World} {ks : List Ex} {k : Nat} {wr : World} {v : Value} {css : List (Array Value)} {bs : List Nat} (h : OnSt w1 ks k wr v css bs) (hk : k < ks.length) {w2 w3 : World} {n : Nd} {sa : Option Addr} {sl sc : Nat} {bk : List Nat} {v' : Value}
    (hN : New wr w2 (exV n (.slice sa sl sc)) ks[k] bk) (hb : Below wr.heap.size wr w2) (hr : RowX w3 w1.heap.size v' (css ++ [exC n (.slice sa sl sc)])) (hg : (w2.alloc (exO n (.slice sa sl sc))).grownBy w3 v.ownBlock)
    (hv : v'.ownBlock = v.ownBlock ∨ v'.ownBlock = some (w2.alloc (exO n (.slice sa sl sc))).heap.size) : OnSt w1 ks (k + 1) w3 v' (css ++ [exC n (.slice sa sl sc)]) (bs ++ bk) := by
  have hal : (w2.alloc (exO n (.slice sa sl sc))).heap.size = w2.heap.size + 1 := by simp
  have hs2 := hb.size
  have hs3 := hg.size
  have hown : ∀ x, v.ownBlock = some x → w1.heap.size ≤ x ∧ x < wr.heap.size := owns_lt h.row
  have hkeep : ∀ x, x < w2.heap.size → v.ownBlock ≠ some x → w3.heap[x]? = w2.heap[x]? := fun x hx hne => (hg.block x (by omega) (Ne.symm hne)).trans (Below.heap_alloc w2 _ x hx)
  have hne2 : ∀ x ∈ bk, v.ownBlock ≠ some x := fun x hx e => by have := (hN.at' x hx).1; have := (hown x e).2; omega
  refine ⟨?_, hr, ?_, ?_, ?_⟩
  · have h1 : Below w1.heap.size w1 w2 := h.low.trans (hb.mono h.low.size)
    exact ⟨hg.os.trans h1.os, hg.tape.trans h1.tape, hg.output.trans h1.output, by have := h1.size; omega, fun x hx => (hkeep x (by have := h1.size; omega) (fun e => by have := (hown x e).1; omega)).trans (h1.block x hx)⟩
  · rw [List.take_succ_eq_append_getElem hk]
    refine OwK.snoc (h.kids.move (fun x hx => ?_)) (hN.ow.move _ (fun x hx => hkeep x (hN.at' x hx).2 (hne2 x hx)))
    have := h.new x hx
    exact (hkeep x (by omega) this.2.2).trans (hb.block x this.2.1)
  · exact List.nodup_append.2 ⟨h.nd, hN.nd, fun x hx y hy e => by have := (h.new x hx).2.1; have := (hN.at' y hy).1; omega⟩
  · intro x hx
    have hx' : w1.heap.size ≤ x ∧ x < w2.heap.size ∧ v.ownBlock ≠ some x := by
      rcases List.mem_append.1 hx with hx | hx
      · have := h.new x hx; exact ⟨this.1, by omega, this.2.2⟩
      · have q := hN.at' x hx; have := h.low.size; exact ⟨by omega, q.2, hne2 x hx⟩
    refine ⟨hx'.1, by omega, fun e => ?_⟩
    rcases hv with hv | hv
    · exact hx'.2.2 (by rw [← hv]; exact e)
    · rw [hv] at e
      have : (w2.alloc (exO n (.slice sa sl sc))).heap.size = x := by simpa using e
      omega
end Go.Proofs.Ytiajoppbgebnpaa
namespace Go.Proofs.Ytiajoppbgebnpaa
open Go.RowKit Go.Sort
set_option linter.unusedVariables false

theorem meas_lt9 {len k : Nat} (h : k < len) : len - (intOf (.int .i64 ((k : Int) + 1))).toNat < len - (intOf (.int .i64 (k : Int))).toNat := by
  show len - ((k : Int) + 1).toNat < len - (k : Int).toNat
  omega
theorem range_ex (w : World) (n : Nd) (s : Value) : (w.alloc (exO n s)).rangeAt w.heap.size 0 (exC n s).toList := World.rangeAt_of_block (Blk.new w (exC n s) 37) 0 14
theorem onst_end {w w1 : World} {nd : Nd} {ks : List Ex} {len : Nat} {wr : World} {v : Value} {css : List (Array Value)} {bs : List Nat} (h1 : w1.heap.size = w.heap.size + 1 + 1) (hl : len = ks.length) (h : OnSt w1 ks len wr v css bs) :
    New w wr (exV nd v) (.mk nd ks) (v.ownBlock.toList ++ bs) ∧ ∀ k ∈ v.ownBlock.toList ++ bs, w.heap.size + 1 < k := by
  have hk := h.kids
  rw [List.take_of_length_le (by omega)] at hk
  obtain ⟨a, l, c, rfl, ho⟩ := tree_row (nd := nd) h.row hk
  have hown := owns_lt h.row
  have hall : ∀ x ∈ (Value.slice a l c).ownBlock.toList ++ bs, w1.heap.size ≤ x ∧ x < wr.heap.size := fun x hx => by
    rcases List.mem_append.1 hx with hx | hx
    · exact hown x (by simpa using hx)
    · have := h.new x hx; exact ⟨this.1, this.2.1⟩
  refine ⟨⟨ho, ?_, fun x hx => ?_⟩, fun x hx => ?_⟩
  · refine List.nodup_append.2 ⟨?_, h.nd, fun x hx y hy e => ?_⟩
    · cases (Value.slice a l c).ownBlock <;> simp
    · subst e
      exact (h.new x hy).2.2 (by simpa using hx)
  · have := hall x hx; exact ⟨by omega, this.2⟩
  · have := hall x hx; omega
end Go.Proofs.Ytiajoppbgebnpaa
