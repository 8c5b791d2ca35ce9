/- quadrilleref12.Move.all: the document's own tree with its references moved. -/
import Derived.Test.YtnikmbkkhfmbeaaR12m
import Derived.Test.YtnikmbkkhfmbeaaROwnW9
import Derived.BigRegion
namespace Go.Proofs.Ytnikmbkkhfmbeaa
open Go.RowKit Go.Sort
set_option linter.unusedVariables false

/-- Trees behind their cells, in blocks of a kind. -/
def InK (m : Nat → Prop) (w : World) : List (Array Value) → List Ex → Prop
  | [], [] => True
  | cs :: css, k :: r => In m w (.agg cs) k ∧ InK m w css r
  | _, _ => False
theorem InK.move {m m' : Nat → Prop} {w w' : World} (hm : ∀ k, m k → m' k ∧ w'.heap[k]? = w.heap[k]?) : ∀ {css : List (Array Value)} {ks : List Ex}, InK m w css ks → InK m' w' css ks
  | [], [], h => h
  | cs :: css, k :: r, h => ⟨h.1.move hm, InK.move hm h.2⟩
  | [], k :: r, h => h.elim
  | cs :: css, [], h => h.elim
theorem InK.snoc {m : Nat → Prop} {w : World} : ∀ {css : List (Array Value)} {ks : List Ex} {cs : Array Value} {k : Ex}, InK m w css ks → In m w (.agg cs) k → InK m w (css ++ [cs]) (ks ++ [k])
  | [], [], cs, k, h, hk => ⟨hk, trivial⟩
  | c :: css, x :: r, cs, k, h, hk => ⟨h.1, InK.snoc h.2 hk⟩
  | [], x :: r, cs, k, h, hk => h.elim
  | c :: css, [], cs, k, h, hk => h.elim
theorem InK.len {m : Nat → Prop} {w : World} : ∀ {css : List (Array Value)} {ks : List Ex}, InK m w css ks → css.length = ks.length
  | [], [], h => rfl
  | c :: css, x :: r, h => by simp [InK.len h.2]
  | [], x :: r, h => h.elim
  | c :: css, [], h => h.elim
theorem InK.row {m : Nat → Prop} {w : World} {g : Nat} : ∀ {css : List (Array Value)} {ks : List Ex} {o : Nat}, InK m w css ks → (∀ j v, (flX css)[j]? = some v → w.cell? ⟨g, o + j, none⟩ = some v) → Kids m w g o ks
  | [], [], o, h, hc => by unfold Kids; trivial
  | c :: css, x :: r, o, h, hc => by
    have hl : c.toList.length = 14 := by obtain ⟨a, l, cp, rfl⟩ := h.1.cs; exact exC_len _ _
    have hf : flX (c :: css) = c.toList ++ flX css := rfl
    unfold Kids
    refine ⟨⟨c, h.1, fun j v hv => hc j v ?_⟩, InK.row h.2 (fun j v hv => ?_)⟩
    · rw [hf, List.getElem?_append_left (List.getElem?_eq_some_iff.1 hv).1]; exact hv
    · have := hc (14 + j) v (by rw [hf, List.getElem?_append_right (by omega), show 14 + j - c.toList.length = j by omega]; exact hv)
      rwa [show o + (14 + j) = o + 14 + j by omega] at this
  | [], x :: r, o, h, hc => h.elim
  | c :: css, [], o, h, hc => h.elim
/-- Old, or new. -/
def OldN (N B S x : Nat) : Prop := x < N ∨ (B ≤ x ∧ x < S)
/-- While the kids are gone over. -/
structure AlSt (N : Nat) (w1 : World) (ks : List Ex) (k : Nat) (wr : World) (v : Value) (css : List (Array Value)) : Prop where
  low : Below w1.heap.size w1 wr
  row : RowX wr w1.heap.size v css
  kids : InK (fun x => OldN N w1.heap.size wr.heap.size x ∧ v.ownBlock ≠ some x) wr css (ks.take k)
theorem AlSt.step {N : Nat} {w1 : World} {ks : List Ex} {k : Nat} {wr : World} {v : Value} {css : List (Array Value)} (h : AlSt N w1 ks k wr v css) (hN : N ≤ w1.heap.size) (hk : k < ks.length) {w2 w3 : World} {n : Nd} {sa : Option Addr} {sl sc : Nat} {v' : Value}
    (hI : In (OldN N wr.heap.size w2.heap.size) w2 (exV n (.slice sa sl sc)) ks[k]) (hb : Below wr.heap.size wr w2) (hr : RowX w3 w1.heap.size v' (css ++ [exC n (.slice sa sl sc)])) (hg : (w2.alloc (exO n (.slice sa sl sc))).grownBy w3 v.ownBlock)
    (hv : v'.ownBlock = v.ownBlock ∨ v'.ownBlock = some (w2.alloc (exO n (.slice sa sl sc))).heap.size) : AlSt N w1 ks (k + 1) w3 v' (css ++ [exC n (.slice sa sl sc)]) := by
  have hal : (w2.alloc (exO n (.slice sa sl sc))).heap.size = w2.heap.size + 1 := by simp
  have hs1 := h.low.size
  have hs2 := hb.size
  have hs3 := hg.size
  have hown : ∀ x, v.ownBlock = some x → w1.heap.size ≤ x ∧ x < wr.heap.size := owns_lt h.row
  have hkeep : ∀ x, x < w2.heap.size → v.ownBlock ≠ some x → w3.heap[x]? = w2.heap[x]? := fun x hx hne => (hg.block x (by omega) (Ne.symm hne)).trans (Below.heap_alloc w2 _ x hx)
  have hv2 : ∀ x, x < w2.heap.size → v.ownBlock ≠ some x → v'.ownBlock ≠ some x := fun x hx hne e => by
    rcases hv with q | q
    · exact hne (by rw [← q]; exact e)
    · rw [q] at e
      have : (w2.alloc (exO n (.slice sa sl sc))).heap.size = x := by simpa using e
      omega
  refine ⟨?_, hr, ?_⟩
  · have h1 : Below w1.heap.size w1 w2 := h.low.trans (hb.mono h.low.size)
    exact ⟨hg.os.trans h1.os, hg.tape.trans h1.tape, hg.output.trans h1.output, by omega, fun x hx => (hkeep x (by omega) (fun e => by have := (hown x e).1; omega)).trans (h1.block x hx)⟩
  · rw [List.take_succ_eq_append_getElem hk]
    refine InK.snoc (h.kids.move (fun x hx => ?_)) (hI.move (fun x hx => ?_))
    · obtain ⟨hx, hne⟩ := hx
      have hx2 : x < wr.heap.size := by rcases hx with hx | hx <;> omega
      exact ⟨⟨by rcases hx with hx | hx; exact .inl hx; exact .inr ⟨hx.1, by omega⟩, hv2 x (by omega) hne⟩, (hkeep x (by omega) hne).trans (hb.block x hx2)⟩
    · have hx2 : x < w2.heap.size ∧ v.ownBlock ≠ some x := by
        refine ⟨by rcases hx with hx | hx <;> omega, fun e => ?_⟩
        have := hown x e
        rcases hx with hx | hx <;> omega
      exact ⟨⟨by rcases hx with hx | hx; exact .inl hx; exact .inr ⟨by omega, by omega⟩, hv2 x hx2.1 hx2.2⟩, hkeep x hx2.1 hx2.2⟩
/-- What all answers. -/
def AllP (N : Nat) (w : World) (t : Ex) (e : Ending) (w' : World) : Prop := ∃ a len cap, e = .returned (exV t.nd (.slice a len cap)) ∧ In (OldN N w.heap.size w'.heap.size) w' (exV t.nd (.slice a len cap)) t ∧ Below w.heap.size w w'
theorem AlSt.fin {N : Nat} {w w1 : World} {nd : Nd} {ks : List Ex} {wr : World} {v : Value} {css : List (Array Value)} (h : AlSt N w1 ks ks.length wr v css) (hs : SmE (.mk nd ks)) (hw : w.heap.size ≤ w1.heap.size) : ∃ a len cap, v = .slice a len cap ∧ In (OldN N w.heap.size wr.heap.size) wr (exV nd v) (.mk nd ks) ∧ ∀ x, OldN N w1.heap.size wr.heap.size x → OldN N w.heap.size wr.heap.size x := by
  have hk := h.kids
  rw [List.take_length] at hk
  have hl := hk.len
  unfold SmE at hs
  have hwide : ∀ x, OldN N w1.heap.size wr.heap.size x → OldN N w.heap.size wr.heap.size x := fun x hx => by rcases hx with hx | hx; exact .inl hx; exact .inr ⟨by omega, hx.2⟩
  rcases h.row.2 with ⟨rfl, h0⟩ | ⟨g, cap, cur, rfl, hg0, hg, hc, hmx, hz, htk⟩
  · obtain rfl : ks = [] := List.eq_nil_of_length_eq_zero (by rw [← hl]; exact h0)
    exact ⟨_, _, _, rfl, by unfold In; exact ⟨_, _, _, rfl, rfl, by omega, hs.1, .inl rfl⟩, hwide⟩
  · refine ⟨_, _, _, rfl, ?_, hwide⟩
    unfold In
    refine ⟨_, _, _, rfl, hl, by rw [hl]; exact hs.2.1, hs.1, .inr ⟨g, 0, rfl, .inr ⟨by omega, (Array.getElem?_eq_some_iff.1 hg).1⟩, ?_⟩⟩
    refine InK.row (hk.move (fun x hx => ⟨hwide x hx.1, rfl⟩)) (fun j u hu => ?_)
    rw [Nat.zero_add, cell_of_row wr g j cur _ _ hg, ← Array.getElem?_toList]
    rw [← htk, List.getElem?_take] at hu
    split at hu
    · exact hu
    · cases hu
abbrev AllIs (K dr dc t n : Int) (f : Mv) (u : Ex) : Prop := ∀ (N : Nat) (v : Value) (w : World), In (· < N) w v u → N ≤ w.heap.size → nodesE u ≤ 512 → allE u = true → Calls Try.prog 36 #[mvV K dr dc t n, v] w fun e w' => AllP N w (movE f u) e w'
set_option maxHeartbeats 2000000 in
set_option maxRecDepth 100000 in
theorem all_5 {K dr dc t n : Int} {f : Mv} (hK : Mvd K dr dc t n f) (nd : Nd) (a : Option Addr) (cap : Nat) (N : Nat) (w : World) (ht : toldB nd 0 = true) (hk : nd.kind = 5) (hx : nd.text.size ≤ 4611686018427387904) :
    Calls Try.prog 36 #[mvV K dr dc t n, exV nd (.slice a 0 cap)] w fun e w' => AllP N w (.mk (movN f nd) []) e w' := by
  have HS := hide (single_any hK nd a 0 cap ht hk)
  obtain ⟨a', c', hs'⟩ : ∃ a' c', slM f nd (.slice a 0 cap) = .slice a' 0 c' := by unfold slM; split; exact ⟨_, _, rfl⟩; exact ⟨_, _, rfl⟩
  have htx : (movN f nd).text.size ≤ 4611686018427387904 := by rw [(movN_text f ht).1]; exact hx
  rw [hs'] at HS
  have MB := hide (((Blk.new w #[.int .i64 K, .int .i64 dr, .int .i64 dc, .int .i64 t, .int .i64 n] 64).alloc (exO nd (.slice a 0 cap))).alloc (exO nd0 (.slice none 0 0)))
  have NB := hide ((Blk.new1 w (.cells #[.int .i64 K, .int .i64 dr, .int .i64 dc, .int .i64 t, .int .i64 n] 64) (exC nd (.slice a 0 cap)) 29).alloc (exO nd0 (.slice none 0 0)))
  have RB := hide (Blk.new2 w (.cells #[.int .i64 K, .int .i64 dr, .int .i64 dc, .int .i64 t, .int .i64 n] 64) (exO nd (.slice a 0 cap)) (exC nd0 (.slice none 0 0)) 29)
  have B0 := hide (step (step (step (Below.refl w.heap.size w) (.cells #[.int .i64 K, .int .i64 dr, .int .i64 dc, .int .i64 t, .int .i64 n] 64)) (exO nd (.slice a 0 cap))) (exO nd0 (.slice none 0 0)))
  have S0 : Hid ((((w.alloc (.cells #[.int .i64 K, .int .i64 dr, .int .i64 dc, .int .i64 t, .int .i64 n] 64)).alloc (exO nd (.slice a 0 cap))).alloc (exO nd0 (.slice none 0 0))).heap.size = w.heap.size + 1 + 1 + 1) := hide (by simp)
  obtain ⟨w0, hw0⟩ : ∃ w0, ((w.alloc (.cells #[.int .i64 K, .int .i64 dr, .int .i64 dc, .int .i64 t, .int .i64 n] 64)).alloc (exO nd (.slice a 0 cap))).alloc (.cells #[.int .i64 0, .int .i64 0, .int .i64 0, .string { data := #[] }, .int .i64 0, .int .i64 0, .bool false, .bool false, .int .i64 0, .int .i64 0, .bool false, .bool false, .int .i64 0, .slice none 0 0] 29) = w0 := ⟨_, rfl⟩
  replace MB : Hid (Blk w0 w.heap.size #[.int .i64 K, .int .i64 dr, .int .i64 dc, .int .i64 t, .int .i64 n] 64) := by rw [← hw0]; exact MB
  replace NB : Hid (Blk w0 (w.heap.size + 1) (exC nd (.slice a 0 cap)) 29) := by rw [← hw0]; exact NB
  replace RB : Hid (Blk w0 (w.heap.size + 1 + 1) (exC nd0 (.slice none 0 0)) 29) := by rw [← hw0]; exact RB
  replace B0 : Hid (Below w.heap.size w w0) := by rw [← hw0]; exact B0
  replace S0 : Hid (w0.heap.size = w.heap.size + 1 + 1 + 1) := by rw [← hw0]; exact S0
  have m0 := MB.out.at' 0
  have m1 := MB.out.at' 1
  have m2 := MB.out.at' 2
  have m3 := MB.out.at' 3
  have m4 := MB.out.at' 4
  simp at m0 m1 m2 m3 m4
  have k5 : (nd.kind == 5) = true := by rw [hk]; rfl
  have k6 : (nd.kind == 6) = false := by rw [hk]; rfl
  have z0 := (NB.out.at' 0).trans (at14 nd (.slice a 0 cap)).c0
  clear hk hs' ht hx hK
  go_enter Try.func36, Try.ntmps36
  go_wp2_with (first
    | (refine wpList_load_blk rfl 29 _ rfl _ rfl _ (by with_reducible exact NB.out) _ Try.underlying29 rfl (exC_info _ _) ?_)
    | (go_at_call 46; refine (HS.out _).mono ?_; rintro e w1 ⟨rfl, hb⟩; have b1 := hide (next B0.out hb); have R1 := hide (RB.out.keep hb); clear hb)
    | (have hst := R1.out; refine wpList_store_row rfl 29 _ _ rfl _ (exC (movN f nd) (.slice a' 0 c')) rfl rfl 29 _ hst (exC_info _ _) (by rfl) (exC_one _ _ _ _) ?_))
  have F3 := R1.out.setRow (cs := exC (movN f nd) (.slice a' 0 c'))
  refine bodyPost_ret (v := exV (movN f nd) (.slice a' 0 c')) (results_cell_row Try.results36 _ _ (w.heap.size + 1 + 1) 29 (exC (movN f nd) (.slice a' 0 c')) (0, 0) _ rfl F3 Try.underlying29 rfl (exC_info _ _)) rfl ?_
  exact ⟨_, _, _, rfl, by unfold In; exact ⟨_, _, _, rfl, rfl, by omega, htx, .inl rfl⟩, below_setRow b1.out (by omega) _⟩
set_option maxHeartbeats 2000000 in
set_option maxRecDepth 100000 in
theorem all_6 {K dr dc t n : Int} {f : Mv} (hK : Mvd K dr dc t n f) (nd : Nd) (a : Option Addr) (cap : Nat) (N : Nat) (w : World) (ht : toldB nd 0 = true) (hk : nd.kind = 6) (hx : nd.text.size ≤ 4611686018427387904) :
    Calls Try.prog 36 #[mvV K dr dc t n, exV nd (.slice a 0 cap)] w fun e w' => AllP N w (.mk (movN f nd) []) e w' := by
  have HS := hide (double_any hK nd a 0 cap ht hk)
  obtain ⟨a', c', hs'⟩ : ∃ a' c', slM f nd (.slice a 0 cap) = .slice a' 0 c' := by unfold slM; split; exact ⟨_, _, rfl⟩; exact ⟨_, _, rfl⟩
  have htx : (movN f nd).text.size ≤ 4611686018427387904 := by rw [(movN_text f ht).1]; exact hx
  rw [hs'] at HS
  have MB := hide (((Blk.new w #[.int .i64 K, .int .i64 dr, .int .i64 dc, .int .i64 t, .int .i64 n] 64).alloc (exO nd (.slice a 0 cap))).alloc (exO nd0 (.slice none 0 0)))
  have NB := hide ((Blk.new1 w (.cells #[.int .i64 K, .int .i64 dr, .int .i64 dc, .int .i64 t, .int .i64 n] 64) (exC nd (.slice a 0 cap)) 29).alloc (exO nd0 (.slice none 0 0)))
  have RB := hide (Blk.new2 w (.cells #[.int .i64 K, .int .i64 dr, .int .i64 dc, .int .i64 t, .int .i64 n] 64) (exO nd (.slice a 0 cap)) (exC nd0 (.slice none 0 0)) 29)
  have B0 := hide (step (step (step (Below.refl w.heap.size w) (.cells #[.int .i64 K, .int .i64 dr, .int .i64 dc, .int .i64 t, .int .i64 n] 64)) (exO nd (.slice a 0 cap))) (exO nd0 (.slice none 0 0)))
  have S0 : Hid ((((w.alloc (.cells #[.int .i64 K, .int .i64 dr, .int .i64 dc, .int .i64 t, .int .i64 n] 64)).alloc (exO nd (.slice a 0 cap))).alloc (exO nd0 (.slice none 0 0))).heap.size = w.heap.size + 1 + 1 + 1) := hide (by simp)
  obtain ⟨w0, hw0⟩ : ∃ w0, ((w.alloc (.cells #[.int .i64 K, .int .i64 dr, .int .i64 dc, .int .i64 t, .int .i64 n] 64)).alloc (exO nd (.slice a 0 cap))).alloc (.cells #[.int .i64 0, .int .i64 0, .int .i64 0, .string { data := #[] }, .int .i64 0, .int .i64 0, .bool false, .bool false, .int .i64 0, .int .i64 0, .bool false, .bool false, .int .i64 0, .slice none 0 0] 29) = w0 := ⟨_, rfl⟩
  replace MB : Hid (Blk w0 w.heap.size #[.int .i64 K, .int .i64 dr, .int .i64 dc, .int .i64 t, .int .i64 n] 64) := by rw [← hw0]; exact MB
  replace NB : Hid (Blk w0 (w.heap.size + 1) (exC nd (.slice a 0 cap)) 29) := by rw [← hw0]; exact NB
  replace RB : Hid (Blk w0 (w.heap.size + 1 + 1) (exC nd0 (.slice none 0 0)) 29) := by rw [← hw0]; exact RB
  replace B0 : Hid (Below w.heap.size w w0) := by rw [← hw0]; exact B0
  replace S0 : Hid (w0.heap.size = w.heap.size + 1 + 1 + 1) := by rw [← hw0]; exact S0
  have m0 := MB.out.at' 0
  have m1 := MB.out.at' 1
  have m2 := MB.out.at' 2
  have m3 := MB.out.at' 3
  have m4 := MB.out.at' 4
  simp at m0 m1 m2 m3 m4
  have k5 : (nd.kind == 5) = false := by rw [hk]; rfl
  have k6 : (nd.kind == 6) = true := by rw [hk]; rfl
  have z0 := (NB.out.at' 0).trans (at14 nd (.slice a 0 cap)).c0
  clear hk hs' ht hx hK
  go_enter Try.func36, Try.ntmps36
  go_wp2_with (first
    | (refine wpList_load_blk rfl 29 _ rfl _ rfl _ (by with_reducible exact NB.out) _ Try.underlying29 rfl (exC_info _ _) ?_)
    | (go_at_call 47; refine (HS.out _).mono ?_; rintro e w1 ⟨rfl, hb⟩; have b1 := hide (next B0.out hb); have R1 := hide (RB.out.keep hb); clear hb)
    | (have hst := R1.out; refine wpList_store_row rfl 29 _ _ rfl _ (exC (movN f nd) (.slice a' 0 c')) rfl rfl 29 _ hst (exC_info _ _) (by rfl) (exC_one _ _ _ _) ?_))
  have F3 := R1.out.setRow (cs := exC (movN f nd) (.slice a' 0 c'))
  refine bodyPost_ret (v := exV (movN f nd) (.slice a' 0 c')) (results_cell_row Try.results36 _ _ (w.heap.size + 1 + 1) 29 (exC (movN f nd) (.slice a' 0 c')) (0, 0) _ rfl F3 Try.underlying29 rfl (exC_info _ _)) rfl ?_
  exact ⟨_, _, _, rfl, by unfold In; exact ⟨_, _, _, rfl, rfl, by omega, htx, .inl rfl⟩, below_setRow b1.out (by omega) _⟩
end Go.Proofs.Ytnikmbkkhfmbeaa
