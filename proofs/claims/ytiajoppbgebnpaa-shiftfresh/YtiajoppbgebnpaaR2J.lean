/- quadrilleref12.Move.all: the document's own tree with its references moved. quadrilleref12.Move.all of every tree that may be. quadrilleref12.Paste, Rows, Cols: what they answer of every tree. -/
import Derived.Test.YtiajoppbgebnpaaR1J
import Derived.Test.YtiajoppbgebnpaaRoJ
import Derived.BigRegion
import Derived.Test.YtiajoppbgebnpaaEq9
import Derived.Test.YtiajoppbgebnpaaRAll9
import Derived.Test.YtiajoppbgebnpaaWkJ
namespace Go.Proofs.Ytiajoppbgebnpaa
open Go.RowKit Go.Sort
set_option linter.unusedVariables false

/-- Trees behind their cells, in blocks of a kind. -/
def InK (m : Nat → Prop) (w : World) : List (Array Value) → List Ex → Prop
  | [], [] => True
  | cs :: css, k :: r => In m w (.agg cs) k ∧ InK m w css r
  | _, _ => False
theorem InK.move {m m' : Nat → Prop} {w w' : World} (hm : ∀ k, m k → m' k ∧ w'.heap[k]? = w.heap[k]?) : ∀ {css : List (Array Value)} {ks : List Ex}, InK m w css ks → InK m' w' css ks
  | [], [], h => h
  | cs :: css, k :: r, h => ⟨h.1.move hm, InK.move hm h.2⟩
  | [], k :: r, h => h.elim
  | cs :: css, [], h => h.elim
theorem InK.snoc {m : Nat → Prop} {w : World} : ∀ {css : List (Array Value)} {ks : List Ex} {cs : Array Value} {k : Ex}, InK m w css ks → In m w (.agg cs) k → InK m w (css ++ [cs]) (ks ++ [k])
  | [], [], cs, k, h, hk => ⟨hk, trivial⟩
  | c :: css, x :: r, cs, k, h, hk => ⟨h.1, InK.snoc h.2 hk⟩
  | [], x :: r, cs, k, h, hk => h.elim
  | c :: css, [], cs, k, h, hk => h.elim
theorem InK.len {m : Nat → Prop} {w : World} : ∀ {css : List (Array Value)} {ks : List Ex}, InK m w css ks → css.length = ks.length
  | [], [], h => rfl
  | c :: css, x :: r, h => by simp [InK.len h.2]
  | [], x :: r, h => h.elim
  | c :: css, [], h => h.elim
theorem InK.row {m : Nat → Prop} {w : World} {g : Nat} : ∀ {css : List (Array Value)} {ks : List Ex} {o : Nat}, InK m w css ks → (∀ j v, (flX css)[j]? = some v → w.cell? ⟨g, o + j, none⟩ = some v) → Kids m w g o ks
  | [], [], o, h, hc => by unfold Kids; trivial
  | c :: css, x :: r, o, h, hc => by
    have hl : c.toList.length = 14 := by obtain ⟨a, l, cp, rfl⟩ := h.1.cs; exact exC_len _ _
    have hf : flX (c :: css) = c.toList ++ flX css := rfl
    unfold Kids
    refine ⟨⟨c, h.1, fun j v hv => hc j v ?_⟩, InK.row h.2 (fun j v hv => ?_)⟩
    · rw [hf, List.getElem?_append_left (List.getElem?_eq_some_iff.1 hv).1]; exact hv
    · have := hc (14 + j) v (by rw [hf, List.getElem?_append_right (by omega), show 14 + j - c.toList.length = j by omega]; exact hv)
      rwa [show o + (14 + j) = o + 14 + j by omega] at this
  | [], x :: r, o, h, hc => h.elim
  | c :: css, [], o, h, hc => h.elim
/-- Old, or new. -/
def OldN (N B S x : Nat) : Prop := x < N ∨ (B ≤ x ∧ x < S)
/-- While the kids are gone over. -/
structure AlSt (N : Nat) (w1 : World) (ks : List Ex) (k : Nat) (wr : World) (v : Value) (css : List (Array Value)) : Prop where
  low : Below w1.heap.size w1 wr
  row : RowX wr w1.heap.size v css
  kids : InK (fun x => OldN N w1.heap.size wr.heap.size x ∧ v.ownBlock ≠ some x) wr css (ks.take k)
theorem AlSt.step {N : Nat} {w1 : World} {ks : List Ex} {k : Nat} {wr : World} {v : Value} {css : List (Array Value)} (h : AlSt N w1 ks k wr v css) (hN : N ≤ w1.heap.size) (hk : k < ks.length) {w2 w3 : World} {n : Nd} {sa : Option Addr} {sl sc : Nat} {v' : Value}
    (hI : In (OldN N wr.heap.size w2.heap.size) w2 (exV n (.slice sa sl sc)) ks[k]) (hb : Below wr.heap.size wr w2) (hr : RowX w3 w1.heap.size v' (css ++ [exC n (.slice sa sl sc)])) (hg : (w2.alloc (exO n (.slice sa sl sc))).grownBy w3 v.ownBlock)
    (hv : v'.ownBlock = v.ownBlock ∨ v'.ownBlock = some (w2.alloc (exO n (.slice sa sl sc))).heap.size) : AlSt N w1 ks (k + 1) w3 v' (css ++ [exC n (.slice sa sl sc)]) := by
  have hal : (w2.alloc (exO n (.slice sa sl sc))).heap.size = w2.heap.size + 1 := by simp
  have hs1 := h.low.size
  have hs2 := hb.size
  have hs3 := hg.size
  have hown : ∀ x, v.ownBlock = some x → w1.heap.size ≤ x ∧ x < wr.heap.size := owns_lt h.row
  have hkeep : ∀ x, x < w2.heap.size → v.ownBlock ≠ some x → w3.heap[x]? = w2.heap[x]? := fun x hx hne => (hg.block x (by omega) (Ne.symm hne)).trans (Below.heap_alloc w2 _ x hx)
  have hv2 : ∀ x, x < w2.heap.size → v.ownBlock ≠ some x → v'.ownBlock ≠ some x := fun x hx hne e => by
    rcases hv with q | q
    · exact hne (by rw [← q]; exact e)
    · rw [q] at e
      have : (w2.alloc (exO n (.slice sa sl sc))).heap.size = x := by simpa using e
      omega
  refine ⟨?_, hr, ?_⟩
  · have h1 : Below w1.heap.size w1 w2 := h.low.trans (hb.mono h.low.size)
    exact ⟨hg.os.trans h1.os, hg.tape.trans h1.tape, hg.output.trans h1.output, by omega, fun x hx => (hkeep x (by omega) (fun e => by have := (hown x e).1; omega)).trans (h1.block x hx)⟩
  · rw [List.take_succ_eq_append_getElem hk]
    refine InK.snoc (h.kids.move (fun x hx => ?_)) (hI.move (fun x hx => ?_))
    · obtain ⟨hx, hne⟩ := hx
      have hx2 : x < wr.heap.size := by rcases hx with hx | hx <;> omega
      exact ⟨⟨by rcases hx with hx | hx; exact .inl hx; exact .inr ⟨hx.1, by omega⟩, hv2 x (by omega) hne⟩, (hkeep x (by omega) hne).trans (hb.block x hx2)⟩
    · have hx2 : x < w2.heap.size ∧ v.ownBlock ≠ some x := by
        refine ⟨by rcases hx with hx | hx <;> omega, fun e => ?_⟩
        have := hown x e
        rcases hx with hx | hx <;> omega
      exact ⟨⟨by rcases hx with hx | hx; exact .inl hx; exact .inr ⟨by omega, by omega⟩, hv2 x hx2.1 hx2.2⟩, hkeep x hx2.1 hx2.2⟩
/-- What all answers. -/
def AllP (N : Nat) (w : World) (t : Ex) (e : Ending) (w' : World) : Prop := ∃ a len cap, e = .returned (exV t.nd (.slice a len cap)) ∧ In (OldN N w.heap.size w'.heap.size) w' (exV t.nd (.slice a len cap)) t ∧ Below w.heap.size w w'
theorem AlSt.fin {N : Nat} {w w1 : World} {nd : Nd} {ks : List Ex} {wr : World} {v : Value} {css : List (Array Value)} (h : AlSt N w1 ks ks.length wr v css) (hs : SmE (.mk nd ks)) (hw : w.heap.size ≤ w1.heap.size) : ∃ a len cap, v = .slice a len cap ∧ In (OldN N w.heap.size wr.heap.size) wr (exV nd v) (.mk nd ks) ∧ ∀ x, OldN N w1.heap.size wr.heap.size x → OldN N w.heap.size wr.heap.size x := by
  have hk := h.kids
  rw [List.take_length] at hk
  have hl := hk.len
  unfold SmE at hs
  have hwide : ∀ x, OldN N w1.heap.size wr.heap.size x → OldN N w.heap.size wr.heap.size x := fun x hx => by rcases hx with hx | hx; exact .inl hx; exact .inr ⟨by omega, hx.2⟩
  rcases h.row.2 with ⟨rfl, h0⟩ | ⟨g, cap, cur, rfl, hg0, hg, hc, hmx, hz, htk⟩
  · obtain rfl : ks = [] := List.eq_nil_of_length_eq_zero (by rw [← hl]; exact h0)
    exact ⟨_, _, _, rfl, by unfold In; exact ⟨_, _, _, rfl, rfl, by omega, hs.1, .inl rfl⟩, hwide⟩
  · refine ⟨_, _, _, rfl, ?_, hwide⟩
    unfold In
    refine ⟨_, _, _, rfl, hl, by rw [hl]; exact hs.2.1, hs.1, .inr ⟨g, 0, rfl, .inr ⟨by omega, (Array.getElem?_eq_some_iff.1 hg).1⟩, ?_⟩⟩
    refine InK.row (hk.move (fun x hx => ⟨hwide x hx.1, rfl⟩)) (fun j u hu => ?_)
    rw [Nat.zero_add, cell_of_row wr g j cur _ _ hg, ← Array.getElem?_toList]
    rw [← htk, List.getElem?_take] at hu
    split at hu
    · exact hu
    · cases hu
abbrev AllIs (K dr dc t n : Int) (f : Mv) (u : Ex) : Prop := ∀ (N : Nat) (v : Value) (w : World), In (· < N) w v u → N ≤ w.heap.size → nodesE u ≤ 512 → allE u = true → Calls Try.prog 35 #[mvV K dr dc t n, v] w fun e w' => AllP N w (movE f u) e w'
set_option maxHeartbeats 2000000 in
set_option maxRecDepth 100000 in
theorem all_5 {K dr dc t n : Int} {f : Mv} (hK : Mvd K dr dc t n f) (nd : Nd) (a : Option Addr) (cap : Nat) (N : Nat) (w : World) (ht : toldB nd 0 = true) (hk : nd.kind = 5) (hx : nd.text.size ≤ 4611686018427387904) :
    Calls Try.prog 35 #[mvV K dr dc t n, exV nd (.slice a 0 cap)] w fun e w' => AllP N w (.mk (movN f nd) []) e w' := by
  have HS := hide (single_any hK nd a 0 cap ht hk)
  obtain ⟨a', c', hs'⟩ : ∃ a' c', slM f nd (.slice a 0 cap) = .slice a' 0 c' := by unfold slM; split; exact ⟨_, _, rfl⟩; exact ⟨_, _, rfl⟩
  have htx : (movN f nd).text.size ≤ 4611686018427387904 := by rw [(movN_text f ht).1]; exact hx
  rw [hs'] at HS
  have MB := hide (((Blk.new w #[.int .i64 K, .int .i64 dr, .int .i64 dc, .int .i64 t, .int .i64 n] 64).alloc (exO nd (.slice a 0 cap))).alloc (exO nd0 (.slice none 0 0)))
  have NB := hide ((Blk.new1 w (.cells #[.int .i64 K, .int .i64 dr, .int .i64 dc, .int .i64 t, .int .i64 n] 64) (exC nd (.slice a 0 cap)) 37).alloc (exO nd0 (.slice none 0 0)))
  have RB := hide (Blk.new2 w (.cells #[.int .i64 K, .int .i64 dr, .int .i64 dc, .int .i64 t, .int .i64 n] 64) (exO nd (.slice a 0 cap)) (exC nd0 (.slice none 0 0)) 37)
  have B0 := hide (step (step (step (Below.refl w.heap.size w) (.cells #[.int .i64 K, .int .i64 dr, .int .i64 dc, .int .i64 t, .int .i64 n] 64)) (exO nd (.slice a 0 cap))) (exO nd0 (.slice none 0 0)))
  have S0 : Hid ((((w.alloc (.cells #[.int .i64 K, .int .i64 dr, .int .i64 dc, .int .i64 t, .int .i64 n] 64)).alloc (exO nd (.slice a 0 cap))).alloc (exO nd0 (.slice none 0 0))).heap.size = w.heap.size + 1 + 1 + 1) := hide (by simp)
  obtain ⟨w0, hw0⟩ : ∃ w0, ((w.alloc (.cells #[.int .i64 K, .int .i64 dr, .int .i64 dc, .int .i64 t, .int .i64 n] 64)).alloc (exO nd (.slice a 0 cap))).alloc (.cells #[.int .i64 0, .int .i64 0, .int .i64 0, .string { data := #[] }, .int .i64 0, .int .i64 0, .bool false, .bool false, .int .i64 0, .int .i64 0, .bool false, .bool false, .int .i64 0, .slice none 0 0] 37) = w0 := ⟨_, rfl⟩
  replace MB : Hid (Blk w0 w.heap.size #[.int .i64 K, .int .i64 dr, .int .i64 dc, .int .i64 t, .int .i64 n] 64) := by rw [← hw0]; exact MB
  replace NB : Hid (Blk w0 (w.heap.size + 1) (exC nd (.slice a 0 cap)) 37) := by rw [← hw0]; exact NB
  replace RB : Hid (Blk w0 (w.heap.size + 1 + 1) (exC nd0 (.slice none 0 0)) 37) := by rw [← hw0]; exact RB
  replace B0 : Hid (Below w.heap.size w w0) := by rw [← hw0]; exact B0
  replace S0 : Hid (w0.heap.size = w.heap.size + 1 + 1 + 1) := by rw [← hw0]; exact S0
  have m0 := MB.out.at' 0
  have m1 := MB.out.at' 1
  have m2 := MB.out.at' 2
  have m3 := MB.out.at' 3
  have m4 := MB.out.at' 4
  simp at m0 m1 m2 m3 m4
  have k5 : (nd.kind == 5) = true := by rw [hk]; rfl
  have k6 : (nd.kind == 6) = false := by rw [hk]; rfl
  have z0 := (NB.out.at' 0).trans (at14 nd (.slice a 0 cap)).c0
  clear hk hs' ht hx hK
  go_enter Try.func35, Try.ntmps35
  go_wp2_with (first
    | (refine wpList_load_blk rfl 37 _ rfl _ rfl _ (by with_reducible exact NB.out) _ Try.underlying37 rfl (exC_info _ _) ?_)
    | (go_at_call 45; refine (HS.out _).mono ?_; rintro e w1 ⟨rfl, hb⟩; have b1 := hide (next B0.out hb); have R1 := hide (RB.out.keep hb); clear hb)
    | (have hst := R1.out; refine wpList_store_row rfl 37 _ _ rfl _ (exC (movN f nd) (.slice a' 0 c')) rfl rfl 37 _ hst (exC_info _ _) (by rfl) (exC_one _ _ _ _) ?_))
  have F3 := R1.out.setRow (cs := exC (movN f nd) (.slice a' 0 c'))
  refine bodyPost_ret (v := exV (movN f nd) (.slice a' 0 c')) (results_cell_row Try.results35 _ _ (w.heap.size + 1 + 1) 37 (exC (movN f nd) (.slice a' 0 c')) (0, 0) _ rfl F3 Try.underlying37 rfl (exC_info _ _)) rfl ?_
  exact ⟨_, _, _, rfl, by unfold In; exact ⟨_, _, _, rfl, rfl, by omega, htx, .inl rfl⟩, below_setRow b1.out (by omega) _⟩
set_option maxHeartbeats 2000000 in
set_option maxRecDepth 100000 in
theorem all_6 {K dr dc t n : Int} {f : Mv} (hK : Mvd K dr dc t n f) (nd : Nd) (a : Option Addr) (cap : Nat) (N : Nat) (w : World) (ht : toldB nd 0 = true) (hk : nd.kind = 6) (hx : nd.text.size ≤ 4611686018427387904) :
    Calls Try.prog 35 #[mvV K dr dc t n, exV nd (.slice a 0 cap)] w fun e w' => AllP N w (.mk (movN f nd) []) e w' := by
  have HS := hide (double_any hK nd a 0 cap ht hk)
  obtain ⟨a', c', hs'⟩ : ∃ a' c', slM f nd (.slice a 0 cap) = .slice a' 0 c' := by unfold slM; split; exact ⟨_, _, rfl⟩; exact ⟨_, _, rfl⟩
  have htx : (movN f nd).text.size ≤ 4611686018427387904 := by rw [(movN_text f ht).1]; exact hx
  rw [hs'] at HS
  have MB := hide (((Blk.new w #[.int .i64 K, .int .i64 dr, .int .i64 dc, .int .i64 t, .int .i64 n] 64).alloc (exO nd (.slice a 0 cap))).alloc (exO nd0 (.slice none 0 0)))
  have NB := hide ((Blk.new1 w (.cells #[.int .i64 K, .int .i64 dr, .int .i64 dc, .int .i64 t, .int .i64 n] 64) (exC nd (.slice a 0 cap)) 37).alloc (exO nd0 (.slice none 0 0)))
  have RB := hide (Blk.new2 w (.cells #[.int .i64 K, .int .i64 dr, .int .i64 dc, .int .i64 t, .int .i64 n] 64) (exO nd (.slice a 0 cap)) (exC nd0 (.slice none 0 0)) 37)
  have B0 := hide (step (step (step (Below.refl w.heap.size w) (.cells #[.int .i64 K, .int .i64 dr, .int .i64 dc, .int .i64 t, .int .i64 n] 64)) (exO nd (.slice a 0 cap))) (exO nd0 (.slice none 0 0)))
  have S0 : Hid ((((w.alloc (.cells #[.int .i64 K, .int .i64 dr, .int .i64 dc, .int .i64 t, .int .i64 n] 64)).alloc (exO nd (.slice a 0 cap))).alloc (exO nd0 (.slice none 0 0))).heap.size = w.heap.size + 1 + 1 + 1) := hide (by simp)
  obtain ⟨w0, hw0⟩ : ∃ w0, ((w.alloc (.cells #[.int .i64 K, .int .i64 dr, .int .i64 dc, .int .i64 t, .int .i64 n] 64)).alloc (exO nd (.slice a 0 cap))).alloc (.cells #[.int .i64 0, .int .i64 0, .int .i64 0, .string { data := #[] }, .int .i64 0, .int .i64 0, .bool false, .bool false, .int .i64 0, .int .i64 0, .bool false, .bool false, .int .i64 0, .slice none 0 0] 37) = w0 := ⟨_, rfl⟩
  replace MB : Hid (Blk w0 w.heap.size #[.int .i64 K, .int .i64 dr, .int .i64 dc, .int .i64 t, .int .i64 n] 64) := by rw [← hw0]; exact MB
  replace NB : Hid (Blk w0 (w.heap.size + 1) (exC nd (.slice a 0 cap)) 37) := by rw [← hw0]; exact NB
  replace RB : Hid (Blk w0 (w.heap.size + 1 + 1) (exC nd0 (.slice none 0 0)) 37) := by rw [← hw0]; exact RB
  replace B0 : Hid (Below w.heap.size w w0) := by rw [← hw0]; exact B0
  replace S0 : Hid (w0.heap.size = w.heap.size + 1 + 1 + 1) := by rw [← hw0]; exact S0
  have m0 := MB.out.at' 0
  have m1 := MB.out.at' 1
  have m2 := MB.out.at' 2
  have m3 := MB.out.at' 3
  have m4 := MB.out.at' 4
  simp at m0 m1 m2 m3 m4
  have k5 : (nd.kind == 5) = false := by rw [hk]; rfl
  have k6 : (nd.kind == 6) = true := by rw [hk]; rfl
  have z0 := (NB.out.at' 0).trans (at14 nd (.slice a 0 cap)).c0
  clear hk hs' ht hx hK
  go_enter Try.func35, Try.ntmps35
  go_wp2_with (first
    | (refine wpList_load_blk rfl 37 _ rfl _ rfl _ (by with_reducible exact NB.out) _ Try.underlying37 rfl (exC_info _ _) ?_)
    | (go_at_call 46; refine (HS.out _).mono ?_; rintro e w1 ⟨rfl, hb⟩; have b1 := hide (next B0.out hb); have R1 := hide (RB.out.keep hb); clear hb)
    | (have hst := R1.out; refine wpList_store_row rfl 37 _ _ rfl _ (exC (movN f nd) (.slice a' 0 c')) rfl rfl 37 _ hst (exC_info _ _) (by rfl) (exC_one _ _ _ _) ?_))
  have F3 := R1.out.setRow (cs := exC (movN f nd) (.slice a' 0 c'))
  refine bodyPost_ret (v := exV (movN f nd) (.slice a' 0 c')) (results_cell_row Try.results35 _ _ (w.heap.size + 1 + 1) 37 (exC (movN f nd) (.slice a' 0 c')) (0, 0) _ rfl F3 Try.underlying37 rfl (exC_info _ _)) rfl ?_
  exact ⟨_, _, _, rfl, by unfold In; exact ⟨_, _, _, rfl, rfl, by omega, htx, .inl rfl⟩, below_setRow b1.out (by omega) _⟩
end Go.Proofs.Ytiajoppbgebnpaa
namespace Go.Proofs.Ytiajoppbgebnpaa
open Go.RowKit Go.Sort
set_option linter.unusedVariables false

theorem exz : exO nd0 (.slice none 0 0) = (.cells #[.int .i64 0, .int .i64 0, .int .i64 0, .string { data := #[] }, .int .i64 0, .int .i64 0, .bool false, .bool false, .int .i64 0, .int .i64 0, .bool false, .bool false, .int .i64 0, .slice none 0 0] 37) := rfl
theorem alst_in {N : Nat} {w w1 : World} {nd : Nd} {ks : List Ex} {wr : World} {a : Option Addr} {len cap : Nat} {css : List (Array Value)} (h : AlSt N w1 ks ks.length wr (.slice a len cap) css) (hs : SmE (.mk nd ks)) (hw : w1.heap.size = w.heap.size + 1 + 1 + 1) (hN : N ≤ w.heap.size) :
    In (OldN N w.heap.size ((wr.setCell ⟨w.heap.size + 1, 13, none⟩ (.slice a len cap)).setRow (w.heap.size + 1 + 1) (exC nd (.slice a len cap))).heap.size) ((wr.setCell ⟨w.heap.size + 1, 13, none⟩ (.slice a len cap)).setRow (w.heap.size + 1 + 1) (exC nd (.slice a len cap))) (exV nd (.slice a len cap)) (.mk nd ks) := by
  have hz : ((wr.setCell ⟨w.heap.size + 1, 13, none⟩ (.slice a len cap)).setRow (w.heap.size + 1 + 1) (exC nd (.slice a len cap))).heap.size = wr.heap.size := by simp
  obtain ⟨_, _, _, _, h1, _⟩ := h.fin (w := w1) (nd := nd) hs (Nat.le_refl _)
  refine h1.move (fun x hx => ⟨?_, ?_⟩)
  · rw [hz]; rcases hx with hx | hx; exact .inl hx; exact .inr ⟨by omega, hx.2⟩
  · have : x ≠ w.heap.size + 1 ∧ x ≠ w.heap.size + 1 + 1 := by rcases hx with hx | hx <;> omega
    exact (setRow_other _ _ _ _ this.2).trans (Below.heap_setCell _ _ _ _ this.1)
set_option maxHeartbeats 4000000 in
set_option maxRecDepth 100000 in
theorem all_loop {K dr dc t n : Int} {f : Mv} (nd : Nd) (ks : List Ex) (ih : ∀ u ∈ ks, AllIs K dr dc t n f u) (N : Nat) (a : Option Addr) (len cap : Nat) (w : World) (ht : In (· < N) w (exV nd (.slice a len cap)) (.mk nd ks)) (hN : N ≤ w.heap.size) (hn : nodesE (.mk nd ks) ≤ 512) (hall : allL ks = true) (hsm : SmE (.mk nd (ks.map (movE f)))) (k5 : (nd.kind == 5) = false) (k6 : (nd.kind == 6) = false) :
    Calls Try.prog 35 #[mvV K dr dc t n, exV nd (.slice a len cap)] w fun e w' => AllP N w (.mk nd (ks.map (movE f))) e w' := by
  obtain ⟨a1, len1, cap1, hv, hl, hll, _, hkid⟩ := ht.un
  obtain ⟨rfl, rfl, rfl⟩ : a = a1 ∧ len = len1 ∧ cap = cap1 := by have := congrArg (fun v => match v with | Value.agg c => c[13]? | _ => none) hv; simpa [exC] using this
  have hle : Hid (len ≤ 511) := hide (by have := hl.out; have := len_nodes ks; rw [nodesE] at hn; omega)
  have hnk : Hid (∀ k ∈ ks, nodesE k ≤ 512) := hide (fun k hk => by have := nodes_mem hk; rw [nodesE] at hn; omega)
  have hak : Hid (∀ k ∈ ks, allE k = true) := hide (fun k hk => all_kid hall hk)
  have c13 := (at14 nd (.slice a len cap)).c13
  have MB := hide (((Blk.new w #[.int .i64 K, .int .i64 dr, .int .i64 dc, .int .i64 t, .int .i64 n] 64).alloc (exO nd (.slice a len cap))).alloc (exO nd0 (.slice none 0 0)))
  have NB := hide ((Blk.new1 w (.cells #[.int .i64 K, .int .i64 dr, .int .i64 dc, .int .i64 t, .int .i64 n] 64) (exC nd (.slice a len cap)) 37).alloc (exO nd0 (.slice none 0 0)))
  have RB := hide (Blk.new2 w (.cells #[.int .i64 K, .int .i64 dr, .int .i64 dc, .int .i64 t, .int .i64 n] 64) (exO nd (.slice a len cap)) (exC nd0 (.slice none 0 0)) 37)
  have B0 := hide (step (step (step (Below.refl w.heap.size w) (.cells #[.int .i64 K, .int .i64 dr, .int .i64 dc, .int .i64 t, .int .i64 n] 64)) (exO nd (.slice a len cap))) (exO nd0 (.slice none 0 0)))
  have S0 : Hid ((((w.alloc (.cells #[.int .i64 K, .int .i64 dr, .int .i64 dc, .int .i64 t, .int .i64 n] 64)).alloc (exO nd (.slice a len cap))).alloc (exO nd0 (.slice none 0 0))).heap.size = w.heap.size + 1 + 1 + 1) := hide (by simp)
  obtain ⟨w0, hw0⟩ : ∃ w0, ((w.alloc (.cells #[.int .i64 K, .int .i64 dr, .int .i64 dc, .int .i64 t, .int .i64 n] 64)).alloc (exO nd (.slice a len cap))).alloc (.cells #[.int .i64 0, .int .i64 0, .int .i64 0, .string { data := #[] }, .int .i64 0, .int .i64 0, .bool false, .bool false, .int .i64 0, .int .i64 0, .bool false, .bool false, .int .i64 0, .slice none 0 0] 37) = w0 := ⟨_, rfl⟩
  replace MB : Hid (Blk w0 w.heap.size #[.int .i64 K, .int .i64 dr, .int .i64 dc, .int .i64 t, .int .i64 n] 64) := by rw [← hw0]; exact MB
  replace NB : Hid (Blk w0 (w.heap.size + 1) (exC nd (.slice a len cap)) 37) := by rw [← hw0]; exact NB
  replace RB : Hid (Blk w0 (w.heap.size + 1 + 1) (exC nd0 (.slice none 0 0)) 37) := by rw [← hw0]; exact RB
  replace B0 : Hid (Below w.heap.size w w0) := by rw [← hw0]; exact B0
  replace S0 : Hid (w0.heap.size = w.heap.size + 1 + 1 + 1) := by rw [← hw0]; exact S0
  have m0 := MB.out.at' 0
  have m1 := MB.out.at' 1
  have m2 := MB.out.at' 2
  have m3 := MB.out.at' 3
  have m4 := MB.out.at' 4
  simp at m0 m1 m2 m3 m4
  have z0 := (NB.out.at' 0).trans (at14 nd (.slice a len cap)).c0
  have hml : Hid ((ks.map (movE f)).length = ks.length) := hide (by simp)
  have hst : Hid (AlSt N w0 (ks.map (movE f)) 0 w0 (.slice none 0 0) []) := hide ⟨Below.refl _ _, ⟨rfl, .inl ⟨rfl, rfl⟩⟩, by rw [List.take_zero]; trivial⟩
  have hN0 : Hid (N ≤ w0.heap.size) := hide (by rw [S0.out]; omega)
  replace ih := hide ih
  replace hN := hide hN
  replace hsm := hide hsm
  clear ht hn hall hv hll
  go_enter Try.func35, Try.ntmps35
  go_wp2_with fail
  clear z0 m0 m1 m2 m3 m4 hw0 k5 k6
  go_loopw [5, 6] (fun l i wr => ∃ (k : Nat) (css : List (Array Value)) (la : Option Addr) (ll lc : Nat), k ≤ len ∧ l = .slice la ll lc ∧ i = .int .i64 k ∧ Hid (AlSt N w0 (ks.map (movE f)) k wr (.slice la ll lc) css)) (fun _ i _ => len - (intOf i).toNat)
  case atStart => exact ⟨0, [], none, 0, 0, Nat.zero_le _, rfl, rfl, hst⟩
  case round =>
    clear hst
    obtain ⟨k, css, la, ll, lc, hkl, rfl, rfl, HC⟩ := hrel
    have z13 := ((NB.out.keep HC.out.low).at' 13).trans c13
    by_cases hlt : k < len
    · have p0 : (k : Int) < (len : Int) := by omega
      have hk : k < ks.length := by have := hl.out; omega
      obtain ⟨b, o, rfl, hbN, hkd⟩ : ∃ b o, a = some ⟨b, o, none⟩ ∧ b < N ∧ Kids (· < N) w b o ks := by rcases hkid.out with h | h; omega; exact h
      obtain ⟨cs, hIk, hrk⟩ := hkd.get k hk
      obtain ⟨aa, kl, cc, rfl⟩ := hIk.cs
      have belw := hide (next B0.out HC.out.low)
      have R1 := range_of_block hrk (belw.out.block b (Nat.lt_of_lt_of_le hbN hN.out))
      obtain ⟨y0, y1, y2, y3, y4, y5, y6, y7, y8, y9, y10, y11, y12, y13⟩ := range14 R1
      have R2 : ∀ o', (wr.alloc o').rangeAt b (o + k * 14) (exC ks[k].nd (.slice aa kl cc)).toList := fun o' => range_of_block (w := wr) R1 (Below.heap_alloc wr o' b (Nat.lt_of_lt_of_le hbN (Nat.le_trans hN.out belw.out.size)))
      have u0 := fun o' => (range14 (R2 o')).1
      have u1 := fun o' => (range14 (R2 o')).2.1
      have u2 := fun o' => (range14 (R2 o')).2.2.1
      have u3 := fun o' => (range14 (R2 o')).2.2.2.1
      have u4 := fun o' => (range14 (R2 o')).2.2.2.2.1
      have u5 := fun o' => (range14 (R2 o')).2.2.2.2.2.1
      have u6 := fun o' => (range14 (R2 o')).2.2.2.2.2.2.1
      have u7 := fun o' => (range14 (R2 o')).2.2.2.2.2.2.2.1
      have u8 := fun o' => (range14 (R2 o')).2.2.2.2.2.2.2.2.1
      have u9 := fun o' => (range14 (R2 o')).2.2.2.2.2.2.2.2.2.1
      have u10 := fun o' => (range14 (R2 o')).2.2.2.2.2.2.2.2.2.2.1
      have u11 := fun o' => (range14 (R2 o')).2.2.2.2.2.2.2.2.2.2.2.1
      have u12 := fun o' => (range14 (R2 o')).2.2.2.2.2.2.2.2.2.2.2.2.1
      have u13 := fun o' => (range14 (R2 o')).2.2.2.2.2.2.2.2.2.2.2.2.2
      have MR := MB.out.keep HC.out.low
      have NR := NB.out.keep HC.out.low
      have m0 := MR.at' 0
      have m1 := MR.at' 1
      have m2 := MR.at' 2
      have m3 := MR.at' 3
      have m4 := MR.at' 4
      have q0 := fun o' => (Blk.alloc MR o').at' 0
      have q1 := fun o' => (Blk.alloc MR o').at' 1
      have q2 := fun o' => (Blk.alloc MR o').at' 2
      have q3 := fun o' => (Blk.alloc MR o').at' 3
      have q4 := fun o' => (Blk.alloc MR o').at' 4
      have q13 := fun o' => ((Blk.alloc NR o').at' 13).trans c13
      simp at m0 m1 m2 m3 m4 q0 q1 q2 q3 q4
      have D1 : Hid (Below w.heap.size w wr.drew) := hide belw.out.drew
      have D2 : Hid (Below w.heap.size w (wr.alloc (.cells #[.int .i64 0, .int .i64 0, .int .i64 0, .string { data := #[] }, .int .i64 0, .int .i64 0, .bool false, .bool false, .int .i64 0, .int .i64 0, .bool false, .bool false, .int .i64 0, .slice none 0 0] 37)).drew) := hide (step belw.out (.cells #[.int .i64 0, .int .i64 0, .int .i64 0, .string { data := #[] }, .int .i64 0, .int .i64 0, .bool false, .bool false, .int .i64 0, .int .i64 0, .bool false, .bool false, .int .i64 0, .slice none 0 0] 37)).drew
      have KZ : Hid (Blk (wr.alloc (.cells #[.int .i64 0, .int .i64 0, .int .i64 0, .string { data := #[] }, .int .i64 0, .int .i64 0, .bool false, .bool false, .int .i64 0, .int .i64 0, .bool false, .bool false, .int .i64 0, .slice none 0 0] 37)).drew wr.heap.size (exC nd0 (.slice none 0 0)) 37) := hide (Blk.new wr (exC nd0 (.slice none 0 0)) 37)
      have IH0 := hide (fun W (h : Below w.heap.size w W) => ih.out _ (List.getElem_mem hk) N _ W (hIk.low (h.mono hN.out)) (Nat.le_trans hN.out h.size) (hnk.out _ (List.getElem_mem hk)) (hak.out _ (List.getElem_mem hk)))
      have hcl : Hid (css.length < 1000000) := hide (by have := HC.out.kids.len; rw [this, List.length_take]; have := hle.out; have := hl.out; have := hml.out; omega)
      have hstep := hide (fun (w2 w3 : World) (n : Nd) (sa : Option Addr) (sl sc : Nat) (v' : Value) => HC.out.step (w2 := w2) (w3 := w3) (n := n) (sa := sa) (sl := sl) (sc := sc) (v' := v') hN0.out (by have := hml.out; omega))
      have hgm : (ks.map (movE f))[k]'(by have := hml.out; omega) = movE f ks[k] := by simp
      rw [hgm] at hstep
      have wk := IntWalk.wrap64_in ((k : Int) + 1) ⟨by omega, by have := hle.out; omega⟩
      generalize ks[k] = tk' at *
      obtain ⟨bn, bk', hbe⟩ : ∃ bn bk', movE f tk' = .mk bn bk' := by cases movE f tk'; exact ⟨_, _, rfl⟩
      have IH : Hid (∀ W, Below w.heap.size w W → Calls Try.prog 35 #[mvV K dr dc t n, lit14 tk'.nd (.slice aa kl cc)] W fun e w' => ∃ a len cap, e = .returned (exV bn (.slice a len cap)) ∧ In (OldN N W.heap.size w'.heap.size) w' (exV bn (.slice a len cap)) (.mk bn bk') ∧ Below W.heap.size W w') := hide (fun W h => by have := IH0.out W h; rw [hbe] at this; exact this)
      rw [hbe] at hstep
      clear IH0 hIk hrk hkd hgm hbe R1 R2 MR NR
      go_wp2_with fail
      go_region_with (first
        | (go_at_call 35; with_reducible refine (IH.out _ D1.out).mono ?_; rintro e w2 ⟨ak, lk, ck, rfl, hI, hb⟩; have hsn1 := run_putnew w2 bn ak lk ck)
        | (go_at_call 35; with_reducible refine (IH.out _ D2.out).mono ?_; rintro e w2 ⟨ak, lk, ck, rfl, hI, hb⟩; have KB2 := KZ.out.keep hb; have hsr2 := run_putrow bn ak lk ck KB2 rfl))
      all_goals clear m0 m1 m2 m3 m4 q0 q1 q2 q3 q4 q13 z13 y0 u0 y1 u1 y2 u2 y3 u3 y4 u4 y5 u5 y6 u6 y7 u7 y8 u8 y9 u9 y10 u10 y11 u11 y12 u12 y13 u13
      all_goals first
        | (have hq := hsn1
           have hb' : Below wr.heap.size wr w2 := ⟨hb.os, hb.tape, hb.output, hb.size, hb.block⟩
           obtain ⟨w2n, hw2n⟩ : ∃ w2n, w2n = w2.alloc (exO bn (.slice ak lk ck)) := ⟨_, rfl⟩
           have K2 : Hid (Blk w2n w2.heap.size (exC bn (.slice ak lk ck)) 37) := hide (by rw [hw2n]; exact Blk.new w2 _ _)
           have hb2 : Hid (Below wr.heap.size wr w2n) := hide (by rw [hw2n]; exact step hb' _)
           have hI2 : Hid (In (OldN N wr.heap.size w2n.heap.size) w2n (exV bn (.slice ak lk ck)) (.mk bn bk')) := hide (by
             rw [hw2n]
             refine hI.move (fun x hx => ⟨?_, Below.heap_alloc w2 _ x ?_⟩)
             · rcases hx with hx | hx
               · exact .inl hx
               · exact .inr ⟨hx.1, by have := hx.2; simp; omega⟩
             · have h1 := hb'.size
               have h2 := belw.out.size
               have h3 := hN.out
               rcases hx with hx | hx
               · omega
               · exact hx.2)
           rw [← hw2n]
           clear hw2n hq hsn1 hb hb' hI IH D1 D2 KZ
           have hrx : Hid (RowX (w2n.alloc (exO bn (.slice ak lk ck))) w0.heap.size (.slice la ll lc) css) := hide (owns_keep (w' := w2n.alloc (exO bn (.slice ak lk ck))) HC.out.row (fun x hx => by have := (owns_lt HC.out.row x hx).2; exact (step hb2.out (exO bn (.slice ak lk ck))).block x this))
           have hrg := hide (range_ex w2n bn (.slice ak lk ck))
           have hbs : Hid (w0.heap.size ≤ (w2n.alloc (exO bn (.slice ak lk ck))).heap.size) := hide (Nat.le_trans HC.out.low.size (step hb2.out (exO bn (.slice ak lk ck))).size)
           go_wp2_with (first
             | (refine wpList_load_blk rfl 37 _ rfl _ rfl _ (by with_reducible exact K2.out) _ Try.underlying37 rfl (exC_info _ _) ?_)
             | (refine Go.Great.wpList_buildSliceTo rfl 30 37 1 _ rfl w2n.heap.size (by simp) _ rfl Try.underlying30 (exC bn (.slice ak lk ck)) (by rw [Array.toList_map]; exact built1 _ _) ?_)
             | (at_builtin; refine wpList_appX (v := .slice la ll lc) (css := css) (n := bn) (sa := ak) (sl := lk) (sc := ck) rfl _ _ rfl rfl rfl hrx.out hrg.out hcl.out hbs.out ?_; intro v' w3 r1 r2 r3; obtain ⟨va, vl, vc, rfl⟩ := owns_shape9 r1; have hnx := hide (hstep.out _ _ _ _ _ _ _ hI2.out hb2.out r1 r2 r3); clear r1 r2 r3))
           refine ⟨⟨k + 1, _, _, _, _, hlt, rfl, by rw [wk]; rfl, hnx⟩, ?_⟩
           rw [wk]
           exact meas_lt hlt)
        | (have hq := hsr2
           have hb1 : Below wr.heap.size wr w2 := (step (Below.refl wr.heap.size wr) (.cells #[.int .i64 0, .int .i64 0, .int .i64 0, .string { data := #[] }, .int .i64 0, .int .i64 0, .bool false, .bool false, .int .i64 0, .int .i64 0, .bool false, .bool false, .int .i64 0, .slice none 0 0] 37)).trans (Below.mono (⟨hb.os, hb.tape, hb.output, hb.size, hb.block⟩ : Below (wr.alloc (.cells #[.int .i64 0, .int .i64 0, .int .i64 0, .string { data := #[] }, .int .i64 0, .int .i64 0, .bool false, .bool false, .int .i64 0, .int .i64 0, .bool false, .bool false, .int .i64 0, .slice none 0 0] 37)).heap.size (wr.alloc (.cells #[.int .i64 0, .int .i64 0, .int .i64 0, .string { data := #[] }, .int .i64 0, .int .i64 0, .bool false, .bool false, .int .i64 0, .int .i64 0, .bool false, .bool false, .int .i64 0, .slice none 0 0] 37)) w2) (by simp))
           obtain ⟨w2n, hw2n⟩ : ∃ w2n, w2n = w2.setRow wr.heap.size (exC bn (.slice ak lk ck)) := ⟨_, rfl⟩
           have K2 : Hid (Blk w2n wr.heap.size (exC bn (.slice ak lk ck)) 37) := hide (by rw [hw2n]; exact KB2.setRow)
           have hb2 : Hid (Below wr.heap.size wr w2n) := hide (by rw [hw2n]; exact below_setRow hb1 (Nat.le_refl _) _)
           have hI2 : Hid (In (OldN N wr.heap.size w2n.heap.size) w2n (exV bn (.slice ak lk ck)) (.mk bn bk')) := hide (by
             rw [hw2n]
             have hz : (wr.alloc (.cells #[.int .i64 0, .int .i64 0, .int .i64 0, .string { data := #[] }, .int .i64 0, .int .i64 0, .bool false, .bool false, .int .i64 0, .int .i64 0, .bool false, .bool false, .int .i64 0, .slice none 0 0] 37)).drew.heap.size = wr.heap.size + 1 := by show (wr.alloc (.cells #[.int .i64 0, .int .i64 0, .int .i64 0, .string { data := #[] }, .int .i64 0, .int .i64 0, .bool false, .bool false, .int .i64 0, .int .i64 0, .bool false, .bool false, .int .i64 0, .slice none 0 0] 37)).heap.size = _; simp
             refine hI.move (fun x hx => ⟨?_, setRow_other _ _ _ _ ?_⟩)
             · rcases hx with hx | hx
               · exact .inl hx
               · exact .inr ⟨by have := hx.1; rw [hz] at this; omega, by rw [size_setRow]; exact hx.2⟩
             · have h2 := belw.out.size
               have h3 := hN.out
               rcases hx with hx | hx
               · omega
               · have := hx.1; rw [hz] at this; omega)
           rw [← hw2n]
           clear hw2n hq hsr2 hb hb1 hI IH D1 D2 KZ KB2
           have hrx : Hid (RowX (w2n.alloc (exO bn (.slice ak lk ck))) w0.heap.size (.slice la ll lc) css) := hide (owns_keep (w' := w2n.alloc (exO bn (.slice ak lk ck))) HC.out.row (fun x hx => by have := (owns_lt HC.out.row x hx).2; exact (step hb2.out (exO bn (.slice ak lk ck))).block x this))
           have hrg := hide (range_ex w2n bn (.slice ak lk ck))
           have hbs : Hid (w0.heap.size ≤ (w2n.alloc (exO bn (.slice ak lk ck))).heap.size) := hide (Nat.le_trans HC.out.low.size (step hb2.out (exO bn (.slice ak lk ck))).size)
           go_wp2_with (first
             | (refine wpList_load_blk rfl 37 _ rfl _ rfl _ (by with_reducible exact K2.out) _ Try.underlying37 rfl (exC_info _ _) ?_)
             | (refine Go.Great.wpList_buildSliceTo rfl 30 37 1 _ rfl w2n.heap.size (by simp) _ rfl Try.underlying30 (exC bn (.slice ak lk ck)) (by rw [Array.toList_map]; exact built1 _ _) ?_)
             | (at_builtin; refine wpList_appX (v := .slice la ll lc) (css := css) (n := bn) (sa := ak) (sl := lk) (sc := ck) rfl _ _ rfl rfl rfl hrx.out hrg.out hcl.out hbs.out ?_; intro v' w3 r1 r2 r3; obtain ⟨va, vl, vc, rfl⟩ := owns_shape9 r1; have hnx := hide (hstep.out _ _ _ _ _ _ _ hI2.out hb2.out r1 r2 r3); clear r1 r2 r3))
           refine ⟨⟨k + 1, _, _, _, _, hlt, rfl, by rw [wk]; rfl, hnx⟩, ?_⟩
           rw [wk]
           exact meas_lt hlt)
    · obtain rfl : k = len := by omega
      have hk' : Hid (AlSt N w0 (ks.map (movE f)) (ks.map (movE f)).length wr (.slice la ll lc) css) := hide (by rw [hml.out, ← hl.out]; exact HC.out)
      obtain ⟨_, _, _, _, hIn, hwd⟩ := hk'.out.fin (w := w) (nd := nd) hsm.out (by rw [S0.out]; omega)
      have NR := hide (NB.out.keep HC.out.low)
      have RR := hide (RB.out.keep HC.out.low)
      have q1 := NR.out.fr 13
      have F1 : Blk (wr.setCell ⟨w.heap.size + 1, 13, none⟩ (.slice la ll lc)) (w.heap.size + 1) (exC nd (.slice la ll lc)) 37 := NR.out.set 13 _
      have F2 : Blk (wr.setCell ⟨w.heap.size + 1, 13, none⟩ (.slice la ll lc)) (w.heap.size + 1 + 1) (exC nd0 (.slice none 0 0)) 37 := blk_other RR.out (by omega)
      have hlow := next B0.out HC.out.low
      have hB : Hid (Below w.heap.size w ((wr.setCell ⟨w.heap.size + 1, 13, none⟩ (.slice la ll lc)).setRow (w.heap.size + 1 + 1) (exC nd (.slice la ll lc)))) := hide (below_setRow (hlow.setCell (p := ⟨w.heap.size + 1, 13, none⟩) (by simp) _) (by omega) _)
      have hIf : Hid (In (OldN N w.heap.size ((wr.setCell ⟨w.heap.size + 1, 13, none⟩ (.slice la ll lc)).setRow (w.heap.size + 1 + 1) (exC nd (.slice la ll lc))).heap.size) ((wr.setCell ⟨w.heap.size + 1, 13, none⟩ (.slice la ll lc)).setRow (w.heap.size + 1 + 1) (exC nd (.slice la ll lc))) (exV nd (.slice la ll lc)) (.mk nd (ks.map (movE f)))) := hide (alst_in hk'.out hsm.out S0.out hN.out)
      clear hIn hwd hlow
      go_wp2_with (first
        | (refine wpList_load_blk rfl 37 _ rfl _ rfl _ (by with_reducible exact F1) _ Try.underlying37 rfl (exC_info _ _) ?_)
        | (refine wpList_store_row rfl 37 _ _ rfl _ (exC nd (.slice la ll lc)) rfl rfl 37 _ F2 (exC_info _ _) (by rfl) (exC_one _ _ _ _) ?_))
      refine bodyPost_ret (v := exV nd (.slice la ll lc)) (results_cell_row Try.results35 _ _ (w.heap.size + 1 + 1) 37 (exC nd (.slice la ll lc)) (0, 0) _ rfl F2.setRow Try.underlying37 rfl (exC_info _ _)) rfl ?_
      exact ⟨_, _, _, rfl, hIf.out, hB.out⟩
theorem all_any {K dr dc t n : Int} {f : Mv} (hK : Mvd K dr dc t n f) : ∀ u, AllIs K dr dc t n f u := by
  refine Ex.ind fun nd ks ih => ?_
  intro N v w ht hN hn hall
  have hsm := In.sm _ ht
  obtain ⟨a, len, cap, rfl, hl, _, htx, _⟩ := ht.un
  obtain ⟨h1, h2⟩ := all_mk hall
  by_cases h5 : nd.kind = 5
  · obtain rfl : ks = [] := List.eq_nil_of_length_eq_zero (shape5 h1 h5).2.2
    obtain rfl : len = 0 := hl.out
    rw [movE, movL]
    exact all_5 hK nd a cap N w h1 h5 htx.out
  · by_cases h6 : nd.kind = 6
    · obtain rfl : ks = [] := List.eq_nil_of_length_eq_zero (shape6 h1 h6).2.2.2
      obtain rfl : len = 0 := hl.out
      rw [movE, movL]
      exact all_6 hK nd a cap N w h1 h6 htx.out
    · have hs2 := mov_sm f _ hall hsm
      rw [movE, movN_other f h1 h5 h6, movL_map] at hs2 ⊢
      exact all_loop nd ks ih N a len cap w ht hN hn h2 hs2 (by simp [h5]) (by simp [h6])
end Go.Proofs.Ytiajoppbgebnpaa
namespace Go.Proofs.Ytiajoppbgebnpaa
open Go.RowKit Go.Sort
set_option linter.unusedVariables false

/-- What the document's three answer: an error, or a tree. -/
def RfP (N : Nat) (w : World) (er : Int) (t : Ex) (e : Ending) (w' : World) : Prop :=
  (er ≠ 0 ∧ e = .returned (.tuple #[exV nd0 (.slice none 0 0), .int .i64 er]) ∧ Below w.heap.size w w') ∨
  (er = 0 ∧ ∃ a len cap, e = .returned (.tuple #[exV t.nd (.slice a len cap), .int .i64 0]) ∧ In (OldN N w.heap.size w'.heap.size) w' (exV t.nd (.slice a len cap)) t ∧ Below w.heap.size w w')
theorem rf_fin {N : Nat} {w wA w1 w2 : World} {t : Ex} (hN : N ≤ w.heap.size) (hA : Below w.heap.size w wA) (hAs : wA.heap.size = w.heap.size + 2) (P : Blk wA (w.heap.size + 1) (exC nd0 (.slice none 0 0)) 37) (h1 : Below wA.heap.size wA w1) {a : Option Addr} {len cap : Nat} (hI : In (OldN N w1.heap.size w2.heap.size) w2 (exV t.nd (.slice a len cap)) t) (h2 : Below w1.heap.size w1 w2) :
    Blk w2 (w.heap.size + 1) (exC nd0 (.slice none 0 0)) 37 ∧ In (OldN N w.heap.size (w2.setRow (w.heap.size + 1) (exC t.nd (.slice a len cap))).heap.size) (w2.setRow (w.heap.size + 1) (exC t.nd (.slice a len cap))) (exV t.nd (.slice a len cap)) t ∧ Below w.heap.size w (w2.setRow (w.heap.size + 1) (exC t.nd (.slice a len cap))) := by
  have hs1 := h1.size
  have hs2 := h2.size
  refine ⟨(P.keep h1).keep h2, hI.move (fun x hx => ⟨by rw [size_setRow]; rcases hx with hx | hx; exact .inl hx; exact .inr ⟨by omega, hx.2⟩, setRow_other _ _ _ _ (by rcases hx with hx | hx <;> omega)⟩), below_setRow (next (next hA h1) h2) (by omega) _⟩
set_option maxHeartbeats 2000000 in
set_option maxRecDepth 100000 in
theorem rpaste_any (t : Ex) (v : Value) (x y : Int) (N : Nat) (w : World) (hN : N ≤ w.heap.size) (hi : In (· < N) w v t) : Calls Try.prog 19 #[v, .int .i64 x, .int .i64 y] w fun e w' => RfP N w (mayR t) (movE (pasR x y) t) e w' := by
  have ht : Tree w v t := hi.move (fun k hk => ⟨Nat.lt_of_lt_of_le hk hN, rfl⟩)
  obtain ⟨a0, l0, c0, rfl, -, -, -, -⟩ := ht.open
  replace hi := hide hi
  have B2 := hide (step (step (Below.refl w.heap.size w) (exO t.nd (.slice a0 l0 c0))) (exO nd0 (.slice none 0 0)))
  have S2 : Hid (((w.alloc (exO t.nd (.slice a0 l0 c0))).alloc (exO nd0 (.slice none 0 0))).heap.size = w.heap.size + 2) := hide (by simp)
  have P0 := hide ((Blk.new w (exC t.nd (.slice a0 l0 c0)) 37).alloc (exO nd0 (.slice none 0 0)))
  have P1 := hide (Blk.new1 w (exO t.nd (.slice a0 l0 c0)) (exC nd0 (.slice none 0 0)) 37)
  have HM := hide (rmay_any t _ _ (ht.step B2.out))
  by_cases hm : ¬ mayR t = 0
  · skip
    have hne : (mayR t != 0) = true := by simp [hm]
    have hne' : (mayR t == 0) = false := by simp [hm]
    have hm' := hide hm
    clear hm ht
    generalize mayR t = m at *
    go_enter Try.func19, Try.ntmps19
    go_wp2_with (first
      | (refine wpList_load_blk rfl 37 _ rfl _ rfl _ P0.out _ Try.underlying37 rfl (exC_info _ _) ?_)
      | (go_at_call 34; refine HM.out.mono ?_; rintro e w1 ⟨rfl, hb⟩; have N1 := hide (P1.out.keep hb); have b1 := hide (next B2.out hb); clear hb)
      | (have hn1 := N1.out; refine wpList_store_row rfl 37 _ _ rfl _ (exC nd0 (.slice none 0 0)) rfl rfl 37 _ hn1 (exC_info nd0 (.slice none 0 0)) (by rfl) (exC_one nd0 none 0 0) ?_))
    have hrl := run_blk (N1.out.setRow (cs := exC nd0 (.slice none 0 0))) rfl
    refine bodyPost_ret (v := .tuple #[exV nd0 (.slice none 0 0), .int .i64 m]) (by simp [results, Try.results19, asAddr, hrl]; try rfl) rfl ?_
    exact .inl ⟨hm'.out, rfl, below_setRow b1.out (by omega) _⟩
  replace hm := Classical.byContradiction hm
  rw [hm] at HM
  rw [hm]
  obtain ⟨hfit, hall⟩ := may_parts hm
  have hn : nodesE t ≤ 512 := (of_decide_eq_true hfit).1
  have HA : Hid (∀ w1, Below ((w.alloc (exO t.nd (.slice a0 l0 c0))).alloc (exO nd0 (.slice none 0 0))).heap.size ((w.alloc (exO t.nd (.slice a0 l0 c0))).alloc (exO nd0 (.slice none 0 0))) w1 → Calls Try.prog 35 #[mvV 1 x y 0 0, exV t.nd (.slice a0 l0 c0)] w1 fun e w' => AllP N w1 (movE (pasR x y) t) e w') := hide (fun w1 hb => all_any (.inl ⟨rfl, rfl⟩ : Mvd 1 x y 0 0 (pasR x y)) t N _ w1 (hi.out.move (fun k hk => ⟨hk, (next B2.out hb).block k (Nat.lt_of_lt_of_le hk hN)⟩)) (Nat.le_trans hN (next B2.out hb).size) hn hall)
  have HF := hide (fun w1 w2 a len cap => rf_fin (t := movE (pasR x y) t) (w1 := w1) (w2 := w2) (a := a) (len := len) (cap := cap) hN B2.out S2.out P1.out)
  clear ht hi hm hfit hall hn
  generalize movE (pasR x y) t = u at *
  go_enter Try.func19, Try.ntmps19
  go_wp2_with (first
    | (refine wpList_load_blk rfl 37 _ rfl _ rfl _ P0.out _ Try.underlying37 rfl (exC_info _ _) ?_)
    | (refine wpList_load_blk rfl 37 _ rfl _ rfl _ (by with_reducible exact Q0.out) _ Try.underlying37 rfl (exC_info _ _) ?_)
    | (refine wpList_store_row rfl 37 _ _ rfl _ (exC u.nd (.slice a len cap)) rfl rfl 37 _ F1.out (exC_info _ _) (by rfl) (exC_one _ _ _ _) ?_)
    | (go_at_call 34; refine HM.out.mono ?_; rintro e w1 ⟨rfl, hb⟩; have Q0 := hide (P0.out.keep hb); replace HA := hide (HA.out w1 hb); replace HF := hide (fun w2 a len cap => HF.out w1 w2 a len cap hb); clear hb)
    | (go_at_call 35; refine HA.out.mono ?_; rintro e w2 ⟨a, len, cap, rfl, hI, hb⟩; obtain ⟨F1, F2, F3⟩ := HF.out w2 a len cap hI hb; replace F1 := hide F1; replace F2 := hide F2; replace F3 := hide F3; clear hI hb HF))
  have hrl := run_blk (F1.out.setRow (cs := exC u.nd (.slice a len cap))) rfl
  refine bodyPost_ret (v := .tuple #[exV u.nd (.slice a len cap), .int .i64 0]) (by simp [results, Try.results19, asAddr, hrl]; try rfl) rfl ?_
  exact .inr ⟨rfl, _, _, _, rfl, F2.out, F3.out⟩
set_option maxHeartbeats 2000000 in
set_option maxRecDepth 100000 in
theorem rrows_any (t : Ex) (v : Value) (x y : Int) (N : Nat) (w : World) (hN : N ≤ w.heap.size) (hi : In (· < N) w v t) : Calls Try.prog 20 #[v, .int .i64 x, .int .i64 y] w fun e w' => RfP N w (spotR t x 0) (movE (rowR x y) t) e w' := by
  have ht : Tree w v t := hi.move (fun k hk => ⟨Nat.lt_of_lt_of_le hk hN, rfl⟩)
  obtain ⟨a0, l0, c0, rfl, -, -, -, -⟩ := ht.open
  replace hi := hide hi
  have B2 := hide (step (step (Below.refl w.heap.size w) (exO t.nd (.slice a0 l0 c0))) (exO nd0 (.slice none 0 0)))
  have S2 : Hid (((w.alloc (exO t.nd (.slice a0 l0 c0))).alloc (exO nd0 (.slice none 0 0))).heap.size = w.heap.size + 2) := hide (by simp)
  have P0 := hide ((Blk.new w (exC t.nd (.slice a0 l0 c0)) 37).alloc (exO nd0 (.slice none 0 0)))
  have P1 := hide (Blk.new1 w (exO t.nd (.slice a0 l0 c0)) (exC nd0 (.slice none 0 0)) 37)
  have HM := hide (rmay_any t _ _ (ht.step B2.out))
  by_cases hm : ¬ mayR t = 0
  · skip
    have her : spotR t x 0 = mayR t := by unfold spotR; rw [if_neg hm]
    rw [her]
    clear her
    have hne : (mayR t != 0) = true := by simp [hm]
    have hne' : (mayR t == 0) = false := by simp [hm]
    have hm' := hide hm
    clear hm ht
    generalize mayR t = m at *
    go_enter Try.func20, Try.ntmps20
    go_wp2_with (first
      | (refine wpList_load_blk rfl 37 _ rfl _ rfl _ P0.out _ Try.underlying37 rfl (exC_info _ _) ?_)
      | (go_at_call 34; refine HM.out.mono ?_; rintro e w1 ⟨rfl, hb⟩; have N1 := hide (P1.out.keep hb); have b1 := hide (next B2.out hb); clear hb)
      | (have hn1 := N1.out; refine wpList_store_row rfl 37 _ _ rfl _ (exC nd0 (.slice none 0 0)) rfl rfl 37 _ hn1 (exC_info nd0 (.slice none 0 0)) (by rfl) (exC_one nd0 none 0 0) ?_))
    have hrl := run_blk (N1.out.setRow (cs := exC nd0 (.slice none 0 0))) rfl
    refine bodyPost_ret (v := .tuple #[exV nd0 (.slice none 0 0), .int .i64 m]) (by simp [results, Try.results20, asAddr, hrl]; try rfl) rfl ?_
    exact .inl ⟨hm'.out, rfl, below_setRow b1.out (by omega) _⟩
  replace hm := Classical.byContradiction hm
  rw [hm] at HM
  by_cases hx : ¬ (0 ≤ x ∧ x < 65536)
  · have her : spotR t x 0 = 1 := by unfold spotR; rw [if_pos hm]; cases q : mayB x 0; rfl; (have := mayB_iff.1 q; omega)
    rw [her]
    clear her ht
    by_cases c0 : x < 0
    · clear hx
      go_enter Try.func20, Try.ntmps20
      go_wp2_with (first
        | (refine wpList_load_blk rfl 37 _ rfl _ rfl _ P0.out _ Try.underlying37 rfl (exC_info _ _) ?_)
        | (go_at_call 34; refine HM.out.mono ?_; rintro e w1 ⟨rfl, hb⟩; have N1 := hide (P1.out.keep hb); have b1 := hide (next B2.out hb); clear hb)
        | (have hn1 := N1.out; refine wpList_store_row rfl 37 _ _ rfl _ (exC nd0 (.slice none 0 0)) rfl rfl 37 _ hn1 (exC_info nd0 (.slice none 0 0)) (by rfl) (exC_one nd0 none 0 0) ?_))
      have hrl := run_blk (N1.out.setRow (cs := exC nd0 (.slice none 0 0))) rfl
      refine bodyPost_ret (v := .tuple #[exV nd0 (.slice none 0 0), .int .i64 1]) (by simp [results, Try.results20, asAddr, hrl]; try rfl) rfl ?_
      exact .inl ⟨by decide, rfl, below_setRow b1.out (by omega) _⟩
    · have c1 : 65536 ≤ x := by omega
      clear hx
      go_enter Try.func20, Try.ntmps20
      go_wp2_with (first
        | (refine wpList_load_blk rfl 37 _ rfl _ rfl _ P0.out _ Try.underlying37 rfl (exC_info _ _) ?_)
        | (go_at_call 34; refine HM.out.mono ?_; rintro e w1 ⟨rfl, hb⟩; have N1 := hide (P1.out.keep hb); have b1 := hide (next B2.out hb); clear hb)
        | (have hn1 := N1.out; refine wpList_store_row rfl 37 _ _ rfl _ (exC nd0 (.slice none 0 0)) rfl rfl 37 _ hn1 (exC_info nd0 (.slice none 0 0)) (by rfl) (exC_one nd0 none 0 0) ?_))
      have hrl := run_blk (N1.out.setRow (cs := exC nd0 (.slice none 0 0))) rfl
      refine bodyPost_ret (v := .tuple #[exV nd0 (.slice none 0 0), .int .i64 1]) (by simp [results, Try.results20, asAddr, hrl]; try rfl) rfl ?_
      exact .inl ⟨by decide, rfl, below_setRow b1.out (by omega) _⟩
  replace hx := Classical.byContradiction hx
  have her : spotR t x 0 = 0 := by unfold spotR; rw [if_pos hm, mayB_iff.2 ⟨hx.1, hx.2, by omega, by omega⟩]; rfl
  rw [her]
  clear her
  obtain ⟨hfit, hall⟩ := may_parts hm
  have hn : nodesE t ≤ 512 := (of_decide_eq_true hfit).1
  have HA : Hid (∀ w1, Below ((w.alloc (exO t.nd (.slice a0 l0 c0))).alloc (exO nd0 (.slice none 0 0))).heap.size ((w.alloc (exO t.nd (.slice a0 l0 c0))).alloc (exO nd0 (.slice none 0 0))) w1 → Calls Try.prog 35 #[mvV 2 0 0 x y, exV t.nd (.slice a0 l0 c0)] w1 fun e w' => AllP N w1 (movE (rowR x y) t) e w') := hide (fun w1 hb => all_any (.inr (.inl ⟨rfl, rfl, hx.1, hx.2⟩) : Mvd 2 0 0 x y (rowR x y)) t N _ w1 (hi.out.move (fun k hk => ⟨hk, (next B2.out hb).block k (Nat.lt_of_lt_of_le hk hN)⟩)) (Nat.le_trans hN (next B2.out hb).size) hn hall)
  have HF := hide (fun w1 w2 a len cap => rf_fin (t := movE (rowR x y) t) (w1 := w1) (w2 := w2) (a := a) (len := len) (cap := cap) hN B2.out S2.out P1.out)
  clear ht hi hm hfit hall hn
  generalize movE (rowR x y) t = u at *
  go_enter Try.func20, Try.ntmps20
  go_wp2_with (first
    | (refine wpList_load_blk rfl 37 _ rfl _ rfl _ P0.out _ Try.underlying37 rfl (exC_info _ _) ?_)
    | (refine wpList_load_blk rfl 37 _ rfl _ rfl _ (by with_reducible exact Q0.out) _ Try.underlying37 rfl (exC_info _ _) ?_)
    | (refine wpList_store_row rfl 37 _ _ rfl _ (exC u.nd (.slice a len cap)) rfl rfl 37 _ F1.out (exC_info _ _) (by rfl) (exC_one _ _ _ _) ?_)
    | (go_at_call 34; refine HM.out.mono ?_; rintro e w1 ⟨rfl, hb⟩; have Q0 := hide (P0.out.keep hb); replace HA := hide (HA.out w1 hb); replace HF := hide (fun w2 a len cap => HF.out w1 w2 a len cap hb); clear hb)
    | (go_at_call 35; refine HA.out.mono ?_; rintro e w2 ⟨a, len, cap, rfl, hI, hb⟩; obtain ⟨F1, F2, F3⟩ := HF.out w2 a len cap hI hb; replace F1 := hide F1; replace F2 := hide F2; replace F3 := hide F3; clear hI hb HF))
  have hrl := run_blk (F1.out.setRow (cs := exC u.nd (.slice a len cap))) rfl
  refine bodyPost_ret (v := .tuple #[exV u.nd (.slice a len cap), .int .i64 0]) (by simp [results, Try.results20, asAddr, hrl]; try rfl) rfl ?_
  exact .inr ⟨rfl, _, _, _, rfl, F2.out, F3.out⟩
set_option maxHeartbeats 2000000 in
set_option maxRecDepth 100000 in
theorem rcols_any (t : Ex) (v : Value) (x y : Int) (N : Nat) (w : World) (hN : N ≤ w.heap.size) (hi : In (· < N) w v t) : Calls Try.prog 21 #[v, .int .i64 x, .int .i64 y] w fun e w' => RfP N w (spotR t 0 x) (movE (colR x y) t) e w' := by
  have ht : Tree w v t := hi.move (fun k hk => ⟨Nat.lt_of_lt_of_le hk hN, rfl⟩)
  obtain ⟨a0, l0, c0, rfl, -, -, -, -⟩ := ht.open
  replace hi := hide hi
  have B2 := hide (step (step (Below.refl w.heap.size w) (exO t.nd (.slice a0 l0 c0))) (exO nd0 (.slice none 0 0)))
  have S2 : Hid (((w.alloc (exO t.nd (.slice a0 l0 c0))).alloc (exO nd0 (.slice none 0 0))).heap.size = w.heap.size + 2) := hide (by simp)
  have P0 := hide ((Blk.new w (exC t.nd (.slice a0 l0 c0)) 37).alloc (exO nd0 (.slice none 0 0)))
  have P1 := hide (Blk.new1 w (exO t.nd (.slice a0 l0 c0)) (exC nd0 (.slice none 0 0)) 37)
  have HM := hide (rmay_any t _ _ (ht.step B2.out))
  by_cases hm : ¬ mayR t = 0
  · skip
    have her : spotR t 0 x = mayR t := by unfold spotR; rw [if_neg hm]
    rw [her]
    clear her
    have hne : (mayR t != 0) = true := by simp [hm]
    have hne' : (mayR t == 0) = false := by simp [hm]
    have hm' := hide hm
    clear hm ht
    generalize mayR t = m at *
    go_enter Try.func21, Try.ntmps21
    go_wp2_with (first
      | (refine wpList_load_blk rfl 37 _ rfl _ rfl _ P0.out _ Try.underlying37 rfl (exC_info _ _) ?_)
      | (go_at_call 34; refine HM.out.mono ?_; rintro e w1 ⟨rfl, hb⟩; have N1 := hide (P1.out.keep hb); have b1 := hide (next B2.out hb); clear hb)
      | (have hn1 := N1.out; refine wpList_store_row rfl 37 _ _ rfl _ (exC nd0 (.slice none 0 0)) rfl rfl 37 _ hn1 (exC_info nd0 (.slice none 0 0)) (by rfl) (exC_one nd0 none 0 0) ?_))
    have hrl := run_blk (N1.out.setRow (cs := exC nd0 (.slice none 0 0))) rfl
    refine bodyPost_ret (v := .tuple #[exV nd0 (.slice none 0 0), .int .i64 m]) (by simp [results, Try.results21, asAddr, hrl]; try rfl) rfl ?_
    exact .inl ⟨hm'.out, rfl, below_setRow b1.out (by omega) _⟩
  replace hm := Classical.byContradiction hm
  rw [hm] at HM
  by_cases hx : ¬ (0 ≤ x ∧ x < 702)
  · have her : spotR t 0 x = 1 := by unfold spotR; rw [if_pos hm]; cases q : mayB 0 x; rfl; (have := mayB_iff.1 q; omega)
    rw [her]
    clear her ht
    by_cases c0 : x < 0
    · clear hx
      go_enter Try.func21, Try.ntmps21
      go_wp2_with (first
        | (refine wpList_load_blk rfl 37 _ rfl _ rfl _ P0.out _ Try.underlying37 rfl (exC_info _ _) ?_)
        | (go_at_call 34; refine HM.out.mono ?_; rintro e w1 ⟨rfl, hb⟩; have N1 := hide (P1.out.keep hb); have b1 := hide (next B2.out hb); clear hb)
        | (have hn1 := N1.out; refine wpList_store_row rfl 37 _ _ rfl _ (exC nd0 (.slice none 0 0)) rfl rfl 37 _ hn1 (exC_info nd0 (.slice none 0 0)) (by rfl) (exC_one nd0 none 0 0) ?_))
      have hrl := run_blk (N1.out.setRow (cs := exC nd0 (.slice none 0 0))) rfl
      refine bodyPost_ret (v := .tuple #[exV nd0 (.slice none 0 0), .int .i64 1]) (by simp [results, Try.results21, asAddr, hrl]; try rfl) rfl ?_
      exact .inl ⟨by decide, rfl, below_setRow b1.out (by omega) _⟩
    · have c1 : 702 ≤ x := by omega
      clear hx
      go_enter Try.func21, Try.ntmps21
      go_wp2_with (first
        | (refine wpList_load_blk rfl 37 _ rfl _ rfl _ P0.out _ Try.underlying37 rfl (exC_info _ _) ?_)
        | (go_at_call 34; refine HM.out.mono ?_; rintro e w1 ⟨rfl, hb⟩; have N1 := hide (P1.out.keep hb); have b1 := hide (next B2.out hb); clear hb)
        | (have hn1 := N1.out; refine wpList_store_row rfl 37 _ _ rfl _ (exC nd0 (.slice none 0 0)) rfl rfl 37 _ hn1 (exC_info nd0 (.slice none 0 0)) (by rfl) (exC_one nd0 none 0 0) ?_))
      have hrl := run_blk (N1.out.setRow (cs := exC nd0 (.slice none 0 0))) rfl
      refine bodyPost_ret (v := .tuple #[exV nd0 (.slice none 0 0), .int .i64 1]) (by simp [results, Try.results21, asAddr, hrl]; try rfl) rfl ?_
      exact .inl ⟨by decide, rfl, below_setRow b1.out (by omega) _⟩
  replace hx := Classical.byContradiction hx
  have her : spotR t 0 x = 0 := by unfold spotR; rw [if_pos hm, mayB_iff.2 ⟨by omega, by omega, hx.1, hx.2⟩]; rfl
  rw [her]
  clear her
  obtain ⟨hfit, hall⟩ := may_parts hm
  have hn : nodesE t ≤ 512 := (of_decide_eq_true hfit).1
  have HA : Hid (∀ w1, Below ((w.alloc (exO t.nd (.slice a0 l0 c0))).alloc (exO nd0 (.slice none 0 0))).heap.size ((w.alloc (exO t.nd (.slice a0 l0 c0))).alloc (exO nd0 (.slice none 0 0))) w1 → Calls Try.prog 35 #[mvV 3 0 0 x y, exV t.nd (.slice a0 l0 c0)] w1 fun e w' => AllP N w1 (movE (colR x y) t) e w') := hide (fun w1 hb => all_any (.inr (.inr ⟨rfl, rfl, hx.1, hx.2⟩) : Mvd 3 0 0 x y (colR x y)) t N _ w1 (hi.out.move (fun k hk => ⟨hk, (next B2.out hb).block k (Nat.lt_of_lt_of_le hk hN)⟩)) (Nat.le_trans hN (next B2.out hb).size) hn hall)
  have HF := hide (fun w1 w2 a len cap => rf_fin (t := movE (colR x y) t) (w1 := w1) (w2 := w2) (a := a) (len := len) (cap := cap) hN B2.out S2.out P1.out)
  clear ht hi hm hfit hall hn
  generalize movE (colR x y) t = u at *
  go_enter Try.func21, Try.ntmps21
  go_wp2_with (first
    | (refine wpList_load_blk rfl 37 _ rfl _ rfl _ P0.out _ Try.underlying37 rfl (exC_info _ _) ?_)
    | (refine wpList_load_blk rfl 37 _ rfl _ rfl _ (by with_reducible exact Q0.out) _ Try.underlying37 rfl (exC_info _ _) ?_)
    | (refine wpList_store_row rfl 37 _ _ rfl _ (exC u.nd (.slice a len cap)) rfl rfl 37 _ F1.out (exC_info _ _) (by rfl) (exC_one _ _ _ _) ?_)
    | (go_at_call 34; refine HM.out.mono ?_; rintro e w1 ⟨rfl, hb⟩; have Q0 := hide (P0.out.keep hb); replace HA := hide (HA.out w1 hb); replace HF := hide (fun w2 a len cap => HF.out w1 w2 a len cap hb); clear hb)
    | (go_at_call 35; refine HA.out.mono ?_; rintro e w2 ⟨a, len, cap, rfl, hI, hb⟩; obtain ⟨F1, F2, F3⟩ := HF.out w2 a len cap hI hb; replace F1 := hide F1; replace F2 := hide F2; replace F3 := hide F3; clear hI hb HF))
  have hrl := run_blk (F1.out.setRow (cs := exC u.nd (.slice a len cap))) rfl
  refine bodyPost_ret (v := .tuple #[exV u.nd (.slice a len cap), .int .i64 0]) (by simp [results, Try.results21, asAddr, hrl]; try rfl) rfl ?_
  exact .inr ⟨rfl, _, _, _, rfl, F2.out, F3.out⟩
end Go.Proofs.Ytiajoppbgebnpaa
