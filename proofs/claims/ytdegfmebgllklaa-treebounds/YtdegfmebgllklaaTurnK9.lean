/- TreeTurned: what a store into the changed tree's root leaves. -/
import Derived.Test.YtdegfmebgllklaaTurnM9
import Derived.Test.YtdegfmebgllklaaBegun9
import Derived.Test.YtdegfmebgllklaaLOwn9
namespace Go.Proofs.Ytdegfmebgllklaa
open Go.RowKit Go.Sort
set_option linter.unusedVariables false

theorem New.tree {w w' : World} {v : Value} {t : Ex} {bs : List Nat} (h : New w w' v t bs) (hs : SmE t) : Tree w' v t := h.ow.in' t (fun k hk => (h.at' k hk).2) hs
theorem SmE.other {nd nd' : Nd} {ks : List Ex} (h : SmE (.mk nd ks)) (ht : nd'.text.size ≤ 4611686018427387904) : SmE (.mk nd' ks) := by
  unfold SmE at h ⊢; exact ⟨ht, h.2⟩
theorem SmE.text {nd : Nd} {ks : List Ex} (h : SmE (.mk nd ks)) : nd.text.size ≤ 4611686018427387904 := by unfold SmE at h; exact h.1
theorem set_op (nd : Nd) (s : Value) (x : Int) : (exC nd s).setIfInBounds 1 (.int .i64 x) = exC { nd with op := x } s := rfl
theorem set_num (nd : Nd) (s : Value) (x : Int) : (exC nd s).setIfInBounds 2 (.int .i64 x) = exC { nd with num := x } s := rfl
theorem set_text (nd : Nd) (s : Value) (x : ByteArray) : (exC nd s).setIfInBounds 3 (.string x) = exC { nd with text := x } s := rfl
theorem set_row (nd : Nd) (s : Value) (x : Int) : (exC nd s).setIfInBounds 4 (.int .i64 x) = exC { nd with ref := { nd.ref with row := x } } s := rfl
theorem set_pin (nd : Nd) (s : Value) (x : Bool) : (exC nd s).setIfInBounds 11 (.bool x) = exC { nd with to := { nd.to with pc := x } } s := rfl
theorem set_kids (nd : Nd) (s s' : Value) : (exC nd s).setIfInBounds 13 s' = exC nd s' := rfl
theorem Blk.other {W : World} {B C j : Nat} {vs : Array Value} {t : TypeId} {u : Value} (h : Blk W B vs t) (hn : B ≠ C) : Blk (W.setCell ⟨C, j, none⟩ u) B vs t := (Below.heap_setCell _ _ _ _ hn).trans h
theorem below_set {B : Nat} {a w : World} (h : Below B a w) {C : Nat} (hC : B ≤ C) (j : Nat) (u : Value) : Below B a (w.setCell ⟨C, j, none⟩ u) :=
  ⟨h.os, h.tape, h.output, by simpa using h.size, fun k hk => (Below.heap_setCell _ _ _ k (by show k ≠ C; omega)).trans (h.block k hk)⟩
/-- The changed tree, behind the store into its root's box. -/
structure Turned (w w6 : World) (nd nd' : Nd) (s0 : Value) (s' : Value) (t' : Ex) (w7 : World) : Prop where
  u : Blk w7 w6.heap.size (exC nd' s') 29
  q : Blk w7 w.heap.size (exC nd s0) 29
  b : Below w.heap.size w w7
  t : Tree w7 (exV nd' s') t'
theorem turned_set {w w5 w6 : World} {nd nd' : Nd} {s0 s : Value} {ks : List Ex} {bs : List Nat} {j : Nat} {x : Value} (hN : New w5 w6 (exV nd s) (.mk nd ks) bs) (hs : SmE (.mk nd ks)) (ht : nd'.text.size ≤ 4611686018427387904)
    (hq : Blk (w6.alloc (exO nd s)) w.heap.size (exC nd s0) 29) (hb : Below w.heap.size w (w6.alloc (exO nd s))) (hlt : w.heap.size < w6.heap.size) (he : (exC nd s).setIfInBounds j x = exC nd' s) :
    Turned w w6 nd nd' s0 s (.mk nd' ks) ((w6.alloc (exO nd s)).setCell ⟨w6.heap.size, j, none⟩ x) := by
  refine ⟨he ▸ (Blk.new w6 (exC nd s) 29).set j x, hq.other (by omega), below_set hb (by omega) _ _, ?_⟩
  refine (hN.ow.other.move _ (fun k hk => ?_)).in' _ (fun k hk => ?_) (hs.other ht)
  · exact (Below.heap_setCell _ _ _ k (by have := (hN.at' k hk).2; show k ≠ w6.heap.size; omega)).trans (Below.heap_alloc w6 _ k (hN.at' k hk).2)
  · have := (hN.at' k hk).2; simp; omega
/-- A kid more, of the list of one's own. -/
theorem turned_kid {w w5 w6 w7 : World} {nd : Nd} {s0 s v' : Value} {ks : List Ex} {bs b2 : List Nat} {css : List (Array Value)} (hN : New w5 w6 (exV nd s) (.mk nd ks) bs) (hs : SmE (.mk nd ks)) (hl : ks.length ≤ 1000000)
    (hq : Blk (w6.alloc (exO nd s)) w.heap.size (exC nd s0) 29) (hb : Below w.heap.size w (w6.alloc (exO nd s))) (hlt : w.heap.size < w5.heap.size) (h56 : w5.heap.size ≤ w6.heap.size) (hk : OwK w6 css ks b2) (hbs : bs = s.ownBlock.toList ++ b2) (hr0 : RowX w6 w5.heap.size s css)
    (hr : RowX w7 w5.heap.size v' (css ++ [exC nd77 (.slice none 0 0)])) (hg : ((w6.alloc (exO nd s)).alloc (exO nd77 (.slice none 0 0))).grownBy w7 s.ownBlock) (hv : v'.ownBlock = s.ownBlock ∨ v'.ownBlock = some ((w6.alloc (exO nd s)).alloc (exO nd77 (.slice none 0 0))).heap.size) :
    Blk w7 w6.heap.size (exC nd s) 29 ∧ Turned w w6 nd nd s0 v' (.mk nd (ks ++ [.mk nd77 []])) (w7.setCell ⟨w6.heap.size, 13, none⟩ v') := by
  have hz : ((w6.alloc (exO nd s)).alloc (exO nd77 (.slice none 0 0))).heap.size = w6.heap.size + 1 + 1 := by simp
  have hs7 := hg.size
  rw [hz] at hs7
  have hown := owns_lt hr0
  have hkeep : ∀ x, x < w6.heap.size + 1 + 1 → s.ownBlock ≠ some x → w7.heap[x]? = ((w6.alloc (exO nd s)).alloc (exO nd77 (.slice none 0 0))).heap[x]? := fun x hx hne => hg.block x (by omega) (Ne.symm hne)
  have hk6 : ∀ x, x < w6.heap.size → s.ownBlock ≠ some x → w7.heap[x]? = w6.heap[x]? := fun x hx hne => (hkeep x (by omega) hne).trans ((Below.heap_alloc _ _ x (by simp; omega)).trans (Below.heap_alloc _ _ x hx))
  have hb0 : ∀ x ∈ b2, s.ownBlock ≠ some x ∧ x < w6.heap.size := fun x hx => by
    have hm : x ∈ bs := by rw [hbs]; exact List.mem_append_right _ hx
    refine ⟨fun e => ?_, (hN.at' x hm).2⟩
    have hn := hN.nd
    rw [hbs, e] at hn
    exact (List.nodup_cons.1 (by simpa using hn)).1 hx
  have hu7 : Blk w7 w6.heap.size (exC nd s) 29 := (hkeep _ (by omega) (fun e => by have := (hown _ e).2; omega)).trans ((Below.heap_alloc _ _ _ (by simp)).trans (Blk.new w6 (exC nd s) 29))
  have hq7 : Blk w7 w.heap.size (exC nd s0) 29 := (hkeep _ (by omega) (fun e => by have := (hown _ e).1; omega)).trans ((Below.heap_alloc _ _ _ (by simp; omega)).trans hq)
  have hb7 : Below w.heap.size w w7 := (step hb (exO nd77 (.slice none 0 0))).grown hg (by omega) (fun x e => by have := (hown x e).1; omega)
  refine ⟨hu7, set_kids nd s v' ▸ hu7.set 13 v', hq7.other (by omega), below_set hb7 (by omega) _ _, ?_⟩
  have hk7 : OwK w7 (css ++ [exC nd77 (.slice none 0 0)]) (ks ++ [.mk nd77 []]) (b2 ++ []) := by
    refine OwK.snoc (hk.move (fun x hx => hk6 x (hb0 x hx).2 (hb0 x hx).1)) ?_
    unfold Ow; exact ⟨_, _, _, rfl, rfl, .inl ⟨rfl, rfl, rfl, rfl⟩⟩
  obtain ⟨a', l', c', rfl, ho⟩ := tree_row (nd := nd) hr hk7
  have hlt7 : ∀ x ∈ (Value.slice a' l' c').ownBlock.toList ++ (b2 ++ []), x < w7.heap.size ∧ x ≠ w6.heap.size := fun x hx => by
    rcases List.mem_append.1 hx with hx | hx
    · have e : (Value.slice a' l' c').ownBlock = some x := by simpa using hx
      refine ⟨(owns_lt hr x e).2, ?_⟩
      rcases hv with hv | hv
      · rw [e] at hv; have := (hown x hv.symm).2; omega
      · rw [e, hz] at hv; have : x = w6.heap.size + 1 + 1 := by simpa using hv
        omega
    · rw [List.append_nil] at hx
      have := (hb0 x hx).2; omega
  refine (ho.move _ (fun x hx => Below.heap_setCell _ _ _ x (hlt7 x hx).2)).in' _ (fun x hx => by simpa using (hlt7 x hx).1) ?_
  unfold SmE at hs ⊢
  refine ⟨hs.1, by rw [List.length_append]; show ks.length + 1 ≤ _; omega, SmL_of fun x hx => ?_⟩
  rcases List.mem_append.1 hx with hx | hx
  · exact hs.2.2.get x hx
  · rw [List.mem_singleton.1 hx]; unfold SmE; exact ⟨by decide, by decide, by unfold SmL; trivial⟩
end Go.Proofs.Ytdegfmebgllklaa
