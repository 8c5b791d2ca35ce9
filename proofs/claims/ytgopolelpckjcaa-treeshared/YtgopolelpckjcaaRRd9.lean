/- quadrilleref9.reads and Reads: what they answer of every tree. -/
import Derived.Test.YtgopolelpckjcaaRAll9
import Derived.Test.YtgopolelpckjcaaReadT9
import Derived.Test.YtgopolelpckjcaaPartsM9
namespace Go.Proofs.Ytgopolelpckjcaa
open Go.RowKit Go.Sort
set_option linter.unusedVariables false

/-- A list of areas that grows: what is written is its own row alone. -/
structure RdSt (w : World) (B : Nat) (l0 : Value) (L : List Ar) (v : Value) (wr : World) : Prop where
  row : RowA wr B v L
  gr : w.grownBy wr l0.ownBlock
  ob : v.ownBlock = l0.ownBlock ∨ ∃ x, v.ownBlock = some x ∧ w.heap.size ≤ x
theorem grown_refl (w : World) (r : Option Nat) : w.grownBy w r := ⟨rfl, rfl, rfl, Nat.le_refl _, fun _ _ _ => rfl⟩
theorem grown_trans {w w1 w2 : World} {r r1 : Option Nat} (h : w.grownBy w1 r) (h1 : w1.grownBy w2 r1) (hr : r1 = r ∨ ∀ k, r1 = some k → w.heap.size ≤ k) : w.grownBy w2 r :=
  ⟨h1.os.trans h.os, h1.tape.trans h.tape, h1.output.trans h.output, Nat.le_trans h.size h1.size, fun k hk hne => (h1.block k (Nat.lt_of_lt_of_le hk h.size) (fun e => by
    rcases hr with hr | hr
    · exact hne (e.trans hr)
    · have := hr k e.symm; omega)).trans (h.block k hk hne)⟩
theorem grown_below {w w1 : World} (h : Below w.heap.size w w1) (r : Option Nat) : w.grownBy w1 r := ⟨h.os, h.tape, h.output, h.size, fun k hk _ => h.block k hk⟩
theorem RdSt.start {w : World} {B : Nat} {v : Value} {L : List Ar} (h : RowA w B v L) : RdSt w B v L v w := ⟨h, grown_refl _ _, .inl rfl⟩
theorem RdSt.low {w : World} {B : Nat} {l0 v : Value} {L : List Ar} {wr w1 : World} (h : RdSt w B l0 L v wr) (hb : Below wr.heap.size wr w1) : RdSt w B l0 L v w1 :=
  ⟨owns_keep h.row (fun k hk => hb.block k (owns_lt h.row k hk).2), grown_trans h.gr (grown_below hb none) (.inr (fun k e => by cases e)), h.ob⟩
theorem RdSt.alloc {w : World} {B : Nat} {l0 v : Value} {L : List Ar} {wr : World} (h : RdSt w B l0 L v wr) (o : Obj) : RdSt w B l0 L v (wr.alloc o) := h.low (step (Below.refl _ _) o)
theorem RdSt.app {w : World} {B : Nat} {l0 v v' : Value} {L M : List Ar} {wr w1 : World} (h : RdSt w B l0 L v wr) (hr : RowA w1 B v' M) (hg : wr.grownBy w1 v.ownBlock) (hv : v'.ownBlock = v.ownBlock ∨ ∃ x, v'.ownBlock = some x ∧ wr.heap.size ≤ x) : RdSt w B l0 M v' w1 := by
  refine ⟨hr, grown_trans h.gr hg ?_, ?_⟩
  · rcases h.ob with e | ⟨x, e, hx⟩
    · exact .inl e
    · exact .inr (fun k ek => by rw [e] at ek; cases ek; exact hx)
  · rcases hv with e | ⟨x, e, hx⟩
    · rw [e]; exact h.ob
    · exact .inr ⟨x, e, Nat.le_trans h.gr.size hx⟩
theorem RdSt.blk {w : World} {B : Nat} {l0 v : Value} {L : List Ar} {wr : World} (h : RdSt w B l0 L v wr) {X : Nat} {cs : Array Value} {t : TypeId} (hb : Blk w X cs t) (hne : l0.ownBlock ≠ some X) : Blk wr X cs t := (h.gr.block X hb.lt (Ne.symm hne)).trans hb
/-- A tree whose blocks are none of the row's. -/
abbrev TreeN (w : World) (l : Value) (v : Value) (t : Ex) : Prop := In (fun b => b < w.heap.size ∧ l.ownBlock ≠ some b) w v t
theorem RdSt.tree {w0 w : World} {B : Nat} {l0 l v : Value} {L : List Ar} {wr : World} {t : Ex} (h : RdSt w B l0 L l wr) (hb : Below w0.heap.size w0 w) (ht : TreeN w0 l0 v t) : TreeN wr l v t := by
  refine ht.move (fun k hk => ⟨⟨Nat.lt_of_lt_of_le hk.1 (Nat.le_trans hb.size h.gr.size), ?_⟩, (h.gr.block k (Nat.lt_of_lt_of_le hk.1 hb.size) (Ne.symm hk.2)).trans (hb.block k hk.1)⟩)
  rcases h.ob with e | ⟨x, e, hx⟩
  · rw [e]; exact hk.2
  · rw [e]; intro q; cases q; have := hb.size; have := hk.1; omega
def RdP (w : World) (B : Nat) (l0 : Value) (L : List Ar) (t : Ex) (e : Ending) (w' : World) : Prop := ∃ a' l' c', e = .returned (.slice a' l' c') ∧ RdSt w B l0 (L ++ readsE t) (.slice a' l' c') w'
abbrev RdIs (t : Ex) : Prop := ∀ (v : Value) (w : World) (B : Nat) (la : Option Addr) (ll lc : Nat) (L : List Ar), TreeN w (.slice la ll lc) v t → RowA w B (.slice la ll lc) L → B ≤ w.heap.size → L.length + nodesE t ≤ 100000 →
  Calls Try.prog 37 #[v, .slice la ll lc] w fun e w' => RdP w B (.slice la ll lc) L t e w'
theorem RdP.st {w wr : World} {B : Nat} {l0 l : Value} {L : List Ar} {t : Ex} {w' : World} {a' : Option Addr} {l' c' : Nat} (h : RdSt w B l0 L l wr) (hp : RdSt wr B l (L ++ readsE t) (.slice a' l' c') w') : RdSt w B l0 (L ++ readsE t) (.slice a' l' c') w' := h.app hp.row hp.gr hp.ob
theorem reads_len : ∀ t : Ex, (readsE t).length ≤ nodesE t := by
  have hL : ∀ ks : List Ex, (∀ k ∈ ks, (readsE k).length ≤ nodesE k) → (readsL ks).length ≤ nodesL ks := by
    intro ks
    induction ks with
    | nil => intro _; rw [readsL, nodesL]; exact Nat.le_refl _
    | cons k r ih => intro h; rw [readsL, nodesL, List.length_append]; have := h k (List.mem_cons_self ..); have := ih (fun x hx => h x (List.mem_cons_of_mem _ hx)); omega
  refine Ex.ind fun nd ks ih => ?_
  rw [readsE, nodesE, List.length_append]
  have := arOf_len nd
  have := hL ks ih
  omega
theorem readsL_take_len (ks : List Ex) (k : Nat) (hk : k < ks.length) : (readsL (ks.take k)).length + nodesE ks[k] ≤ nodesL ks := by
  have h1 := (take_le ks k hk).1
  have h2 : ∀ l : List Ex, (readsL l).length ≤ nodesL l := by
    intro l
    induction l with
    | nil => rw [readsL, nodesL]; exact Nat.le_refl _
    | cons x r ih => rw [readsL, nodesL, List.length_append]; have := reads_len x; omega
  have := h2 (ks.take k)
  omega
theorem builtA (x : Ar) : Try.prog.builtSlice 47 1 [(0, arV x)] = some (arC x).toArray := by kernel_rfl
theorem range_ar (w : World) (x : Ar) : (w.alloc (.cells (arC x).toArray 47)).rangeAt w.heap.size 0 (arC x) := World.rangeAt_of_block (Blk.new w (arC x).toArray 47) 0 4
set_option maxHeartbeats 2000000 in
set_option maxRecDepth 100000 in
theorem rd_five (nd : Nd) (ks : List Ex) (hk : nd.kind = 5) (ih : ∀ k ∈ ks, RdIs k) : RdIs (.mk nd ks) := by
  intro v w B la ll lc L ht hr hB hnl
  have ht' : Tree w v (.mk nd ks) := ht.wide (fun k h => h.1)
  obtain ⟨a, len, cap, rfl, _, _, _, hks⟩ := ht.un
  have hK := ht'.kidsAt
  have hlen := hide hK.lq
  have hsml := hide hK.small
  have harr : arOf nd = [ofA nd.ref.row nd.ref.col nd.ref.row nd.ref.col] := by unfold arOf; simp [hk]
  have hres : readsE (.mk nd ks) = [ofA nd.ref.row nd.ref.col nd.ref.row nd.ref.col] ++ readsL ks := by rw [readsE, harr]
  have B2 := hide (step (step (Below.refl w.heap.size w) (exO nd (.slice a len cap))) (.cells #[.int .i64 nd.ref.row, .int .i64 nd.ref.col] 56))
  have P0 := hide ((Blk.new w (exC nd (.slice a len cap)) 29).alloc (.cells #[.int .i64 nd.ref.row, .int .i64 nd.ref.col] 56))
  have hob := owns_lt hr
  have hn0 : Hid ((Value.slice la ll lc).ownBlock ≠ some w.heap.size) := hide (fun e => by have := (hob _ e).2; omega)
  have S0 : Hid (RdSt ((w.alloc (exO nd (.slice a len cap))).alloc (.cells #[.int .i64 nd.ref.row, .int .i64 nd.ref.col] 56)) B (.slice la ll lc) L (.slice la ll lc) ((w.alloc (exO nd (.slice a len cap))).alloc (.cells #[.int .i64 nd.ref.row, .int .i64 nd.ref.col] 56))) := hide (RdSt.start (owns_keep hr (fun x hx => by have := (hob x hx).2; exact (Below.heap_alloc _ _ x (by simp; omega)).trans (Below.heap_alloc _ _ x this))))
  obtain ⟨c0, c1, c2, c3, c4, c5, c6, c7, c8, c9, c10, c11, c12, c13⟩ := at14 nd (.slice a len cap)
  have x0 := (P0.out.at' 0).trans c0
  have y4 := ((Blk.new w (exC nd (.slice a len cap)) 29).at' 4).trans c4
  have y5 := ((Blk.new w (exC nd (.slice a len cap)) 29).at' 5).trans c5
  have hnk : nodesE (.mk nd ks) = 1 + nodesL ks := by rw [nodesE]
  rw [hnk] at hnl
  replace hnl := hide hnl
  replace hB := hide hB
  replace ht := hide ht
  replace ih := hide ih
  replace hks := hide hks.out
  replace hres := hide hres
  clear c0 c1 c2 c3 c4 c5 c6 c7 c8 c9 c10 c11 c12 harr hK ht' hr hob hnk
  have HO := hide (rof_any nd.ref.row nd.ref.col nd.ref.row nd.ref.col ((w.alloc (exO nd (.slice a len cap))).alloc (.cells #[.int .i64 nd.ref.row, .int .i64 nd.ref.col] 56)))
  obtain ⟨x, hx⟩ : ∃ x, ofA nd.ref.row nd.ref.col nd.ref.row nd.ref.col = x := ⟨_, rfl⟩
  rw [hx] at HO hres
  clear hx
  go_enter Try.func37, Try.ntmps37
  go_wp2_with (first
    | (go_at_call 43; refine HO.out.mono ?_; rintro e w3 ⟨rfl, hb⟩; have S3 := hide ((S0.out.low hb).alloc (.cells (arC x).toArray 47)); have hrg := hide (range_ar w3 x); have hcl : Hid (L.length < 1000000) := hide (by have := hnl.out; omega); have hbs : Hid (B ≤ (w3.alloc (.cells (arC x).toArray 47)).heap.size) := hide (Nat.le_trans hB.out (Nat.le_trans (Nat.le_trans (by simp; omega) hb.size) (by simp))); clear hb)
    | (refine Go.Great.wpList_buildSliceTo rfl 41 47 1 _ rfl w3.heap.size rfl _ rfl Try.underlying41 (arC x).toArray (by rw [Array.toList_map]; exact builtA x) ?_)
    | (at_builtin; refine wpList_appA (v := .slice la ll lc) (L := L) (x := x) rfl _ _ rfl rfl rfl S3.out.row hrg.out hcl.out hbs.out ?_; intro v' w4 r1 r2 r3; obtain ⟨va, vl, vc, rfl⟩ := owns_shape9 r1; have S4 := hide (S3.out.app r1 r2 (r3.imp id (fun e => ⟨_, e, Nat.le_refl _⟩))); clear r1 r2 r3))
  clear x0 y4 y5 hk
  go_loopw [1, 6] (fun l i wr => ∃ (k : Nat) (a' : Option Addr) (l' c' : Nat), k ≤ len ∧ l = .slice a' l' c' ∧ i = .int .i64 k ∧ Hid (RdSt ((w.alloc (exO nd (.slice a len cap))).alloc (.cells #[.int .i64 nd.ref.row, .int .i64 nd.ref.col] 56)) B (.slice la ll lc) ((L ++ [x]) ++ readsL (ks.take k)) (.slice a' l' c') wr)) (fun _ i _ => len - (intOf i).toNat)
  case atStart => exact ⟨0, va, vl, vc, Nat.zero_le _, rfl, rfl, by rw [List.take_zero, readsL, List.append_nil]; exact S4⟩
  case round =>
    obtain ⟨k, a', l', c', hkl, rfl, rfl, HS⟩ := hrel
    have z13 := ((HS.out.blk P0.out hn0.out).at' 13).trans c13
    by_cases hlt : k < len
    · have p0 : (k : Int) < (len : Int) := by omega
      have hk1 : k < ks.length := by have := hlen.out; omega
      rcases hks.out with h0 | ⟨b0, o0, rfl, hm0, hkk⟩
      · exfalso; omega
      obtain ⟨cs, hin, hrk⟩ := hkk.get k hk1
      obtain ⟨aa, al, ac, rfl⟩ := hin.cs
      have hin' := HS.out.tree B2.out hin
      have R1 := hide (range_of_block hrk ((HS.out.gr.block b0 (by have := hm0.1; simp; omega) (Ne.symm hm0.2)).trans (B2.out.block b0 hm0.1)))
      have hnl' : ((L ++ [x]) ++ readsL (ks.take k)).length + nodesE ks[k] ≤ 100000 := by
        have := readsL_take_len ks k hk1
        have := hnl.out
        simp only [List.length_append, List.length_cons, List.length_nil]
        omega
      have IH := hide (ih.out _ (List.getElem_mem hk1) _ wr B a' l' c' _ hin' HS.out.row (Nat.le_trans hB.out (Nat.le_trans (by simp; omega) HS.out.gr.size)) hnl')
      have hsn : Hid (readsL (ks.take (k + 1)) = readsL (ks.take k) ++ readsE ks[k]) := hide (by rw [List.take_succ_eq_append_getElem hk1, readsL_snoc])
      have wk := IntWalk.wrap64_in ((k : Int) + 1) ⟨by omega, by have := hsml.out; omega⟩
      generalize ks[k] = tk' at *
      replace hm0 := hide hm0
      clear hin hin' hrk hnl' hkk
      go_wp2_with (first
        | (refine wpList_load_at rfl 29 _ rfl _ _ rfl _ _ (by with_reducible exact R1.out) Try.underlying29 rfl (exC_info _ _) ?_)
        | (go_at_call 37; refine IH.out.mono ?_; rintro e w5 ⟨a5, l5, c5, rfl, h5⟩; have S5 := hide (RdP.st HS.out h5); clear h5))
      refine ⟨⟨k + 1, a5, l5, c5, hlt, rfl, by rw [wk]; rfl, by rw [hsn.out, ← List.append_assoc]; exact S5⟩, ?_⟩
      rw [wk]
      exact meas_lt hlt
    · obtain rfl : k = len := by omega
      have hfin : Hid (RdSt w B (.slice la ll lc) (L ++ readsE (.mk nd ks)) (.slice a' l' c') wr) := hide (by
        have h := HS.out
        rw [List.take_of_length_le (by have := hlen.out; omega)] at h
        rw [hres.out]
        refine ⟨by simpa [List.append_assoc] using h.row, ⟨h.gr.os, h.gr.tape, h.gr.output, Nat.le_trans B2.out.size h.gr.size, fun j hj hne => (h.gr.block j (Nat.lt_of_lt_of_le hj B2.out.size) hne).trans (B2.out.block j hj)⟩, ?_⟩
        rcases h.ob with e | ⟨x, e, hx⟩
        · exact .inl e
        · exact .inr ⟨x, e, Nat.le_trans B2.out.size hx⟩)
      go_wp2_with fail
      go_ret
      exact ⟨_, _, _, rfl, hfin.out⟩
set_option maxHeartbeats 2000000 in
set_option maxRecDepth 100000 in
theorem rd_six (nd : Nd) (ks : List Ex) (hk : nd.kind = 6) (ih : ∀ k ∈ ks, RdIs k) : RdIs (.mk nd ks) := by
  intro v w B la ll lc L ht hr hB hnl
  have ht' : Tree w v (.mk nd ks) := ht.wide (fun k h => h.1)
  obtain ⟨a, len, cap, rfl, _, _, _, hks⟩ := ht.un
  have hK := ht'.kidsAt
  have hlen := hide hK.lq
  have hsml := hide hK.small
  have harr : arOf nd = [ofA nd.ref.row nd.ref.col nd.to.row nd.to.col] := by unfold arOf; simp [hk]
  have hres : readsE (.mk nd ks) = [ofA nd.ref.row nd.ref.col nd.to.row nd.to.col] ++ readsL ks := by rw [readsE, harr]
  have B2 := hide (step (step (Below.refl w.heap.size w) (exO nd (.slice a len cap))) (.cells #[.int .i64 nd.ref.row, .int .i64 nd.ref.col] 56))
  have P0 := hide ((Blk.new w (exC nd (.slice a len cap)) 29).alloc (.cells #[.int .i64 nd.ref.row, .int .i64 nd.ref.col] 56))
  have hob := owns_lt hr
  have hn0 : Hid ((Value.slice la ll lc).ownBlock ≠ some w.heap.size) := hide (fun e => by have := (hob _ e).2; omega)
  have S0 : Hid (RdSt ((w.alloc (exO nd (.slice a len cap))).alloc (.cells #[.int .i64 nd.ref.row, .int .i64 nd.ref.col] 56)) B (.slice la ll lc) L (.slice la ll lc) ((w.alloc (exO nd (.slice a len cap))).alloc (.cells #[.int .i64 nd.ref.row, .int .i64 nd.ref.col] 56))) := hide (RdSt.start (owns_keep hr (fun x hx => by have := (hob x hx).2; exact (Below.heap_alloc _ _ x (by simp; omega)).trans (Below.heap_alloc _ _ x this))))
  obtain ⟨c0, c1, c2, c3, c4, c5, c6, c7, c8, c9, c10, c11, c12, c13⟩ := at14 nd (.slice a len cap)
  have x0 := (P0.out.at' 0).trans c0
  have y4 := ((Blk.new w (exC nd (.slice a len cap)) 29).at' 4).trans c4
  have y5 := ((Blk.new w (exC nd (.slice a len cap)) 29).at' 5).trans c5
  have hnk : nodesE (.mk nd ks) = 1 + nodesL ks := by rw [nodesE]
  rw [hnk] at hnl
  replace hnl := hide hnl
  replace hB := hide hB
  replace ht := hide ht
  replace ih := hide ih
  replace hks := hide hks.out
  replace hres := hide hres
  have x8 := (P0.out.at' 8).trans c8
  have x9 := (P0.out.at' 9).trans c9
  clear c0 c1 c2 c3 c4 c5 c6 c7 c8 c9 c10 c11 c12 harr hK ht' hr hob hnk
  have HO := hide (rof_any nd.ref.row nd.ref.col nd.to.row nd.to.col ((w.alloc (exO nd (.slice a len cap))).alloc (.cells #[.int .i64 nd.ref.row, .int .i64 nd.ref.col] 56)))
  obtain ⟨x, hx⟩ : ∃ x, ofA nd.ref.row nd.ref.col nd.to.row nd.to.col = x := ⟨_, rfl⟩
  rw [hx] at HO hres
  clear hx
  go_enter Try.func37, Try.ntmps37
  go_wp2_with (first
    | (go_at_call 43; refine HO.out.mono ?_; rintro e w3 ⟨rfl, hb⟩; have S3 := hide ((S0.out.low hb).alloc (.cells (arC x).toArray 47)); have hrg := hide (range_ar w3 x); have hcl : Hid (L.length < 1000000) := hide (by have := hnl.out; omega); have hbs : Hid (B ≤ (w3.alloc (.cells (arC x).toArray 47)).heap.size) := hide (Nat.le_trans hB.out (Nat.le_trans (Nat.le_trans (by simp; omega) hb.size) (by simp))); clear hb)
    | (refine Go.Great.wpList_buildSliceTo rfl 41 47 1 _ rfl w3.heap.size rfl _ rfl Try.underlying41 (arC x).toArray (by rw [Array.toList_map]; exact builtA x) ?_)
    | (at_builtin; refine wpList_appA (v := .slice la ll lc) (L := L) (x := x) rfl _ _ rfl rfl rfl S3.out.row hrg.out hcl.out hbs.out ?_; intro v' w4 r1 r2 r3; obtain ⟨va, vl, vc, rfl⟩ := owns_shape9 r1; have S4 := hide (S3.out.app r1 r2 (r3.imp id (fun e => ⟨_, e, Nat.le_refl _⟩))); clear r1 r2 r3))
  clear x0 y4 y5 hk
  go_loopw [1, 6] (fun l i wr => ∃ (k : Nat) (a' : Option Addr) (l' c' : Nat), k ≤ len ∧ l = .slice a' l' c' ∧ i = .int .i64 k ∧ Hid (RdSt ((w.alloc (exO nd (.slice a len cap))).alloc (.cells #[.int .i64 nd.ref.row, .int .i64 nd.ref.col] 56)) B (.slice la ll lc) ((L ++ [x]) ++ readsL (ks.take k)) (.slice a' l' c') wr)) (fun _ i _ => len - (intOf i).toNat)
  case atStart => exact ⟨0, va, vl, vc, Nat.zero_le _, rfl, rfl, by rw [List.take_zero, readsL, List.append_nil]; exact S4⟩
  case round =>
    obtain ⟨k, a', l', c', hkl, rfl, rfl, HS⟩ := hrel
    have z13 := ((HS.out.blk P0.out hn0.out).at' 13).trans c13
    by_cases hlt : k < len
    · have p0 : (k : Int) < (len : Int) := by omega
      have hk1 : k < ks.length := by have := hlen.out; omega
      rcases hks.out with h0 | ⟨b0, o0, rfl, hm0, hkk⟩
      · exfalso; omega
      obtain ⟨cs, hin, hrk⟩ := hkk.get k hk1
      obtain ⟨aa, al, ac, rfl⟩ := hin.cs
      have hin' := HS.out.tree B2.out hin
      have R1 := hide (range_of_block hrk ((HS.out.gr.block b0 (by have := hm0.1; simp; omega) (Ne.symm hm0.2)).trans (B2.out.block b0 hm0.1)))
      have hnl' : ((L ++ [x]) ++ readsL (ks.take k)).length + nodesE ks[k] ≤ 100000 := by
        have := readsL_take_len ks k hk1
        have := hnl.out
        simp only [List.length_append, List.length_cons, List.length_nil]
        omega
      have IH := hide (ih.out _ (List.getElem_mem hk1) _ wr B a' l' c' _ hin' HS.out.row (Nat.le_trans hB.out (Nat.le_trans (by simp; omega) HS.out.gr.size)) hnl')
      have hsn : Hid (readsL (ks.take (k + 1)) = readsL (ks.take k) ++ readsE ks[k]) := hide (by rw [List.take_succ_eq_append_getElem hk1, readsL_snoc])
      have wk := IntWalk.wrap64_in ((k : Int) + 1) ⟨by omega, by have := hsml.out; omega⟩
      generalize ks[k] = tk' at *
      replace hm0 := hide hm0
      clear hin hin' hrk hnl' hkk
      go_wp2_with (first
        | (refine wpList_load_at rfl 29 _ rfl _ _ rfl _ _ (by with_reducible exact R1.out) Try.underlying29 rfl (exC_info _ _) ?_)
        | (go_at_call 37; refine IH.out.mono ?_; rintro e w5 ⟨a5, l5, c5, rfl, h5⟩; have S5 := hide (RdP.st HS.out h5); clear h5))
      refine ⟨⟨k + 1, a5, l5, c5, hlt, rfl, by rw [wk]; rfl, by rw [hsn.out, ← List.append_assoc]; exact S5⟩, ?_⟩
      rw [wk]
      exact meas_lt hlt
    · obtain rfl : k = len := by omega
      have hfin : Hid (RdSt w B (.slice la ll lc) (L ++ readsE (.mk nd ks)) (.slice a' l' c') wr) := hide (by
        have h := HS.out
        rw [List.take_of_length_le (by have := hlen.out; omega)] at h
        rw [hres.out]
        refine ⟨by simpa [List.append_assoc] using h.row, ⟨h.gr.os, h.gr.tape, h.gr.output, Nat.le_trans B2.out.size h.gr.size, fun j hj hne => (h.gr.block j (Nat.lt_of_lt_of_le hj B2.out.size) hne).trans (B2.out.block j hj)⟩, ?_⟩
        rcases h.ob with e | ⟨x, e, hx⟩
        · exact .inl e
        · exact .inr ⟨x, e, Nat.le_trans B2.out.size hx⟩)
      go_wp2_with fail
      go_ret
      exact ⟨_, _, _, rfl, hfin.out⟩
set_option maxHeartbeats 2000000 in
set_option maxRecDepth 100000 in
theorem rd_else (nd : Nd) (ks : List Ex) (hk : ¬ (nd.kind = 5) ∧ ¬ (nd.kind = 6)) (ih : ∀ k ∈ ks, RdIs k) : RdIs (.mk nd ks) := by
  intro v w B la ll lc L ht hr hB hnl
  have ht' : Tree w v (.mk nd ks) := ht.wide (fun k h => h.1)
  obtain ⟨a, len, cap, rfl, _, _, _, hks⟩ := ht.un
  have hK := ht'.kidsAt
  have hlen := hide hK.lq
  have hsml := hide hK.small
  have harr : arOf nd = [] := by unfold arOf; simp [hk]
  have hres : readsE (.mk nd ks) = [] ++ readsL ks := by rw [readsE, harr]
  have B2 := hide (step (step (Below.refl w.heap.size w) (exO nd (.slice a len cap))) (.cells #[.int .i64 nd.ref.row, .int .i64 nd.ref.col] 56))
  have P0 := hide ((Blk.new w (exC nd (.slice a len cap)) 29).alloc (.cells #[.int .i64 nd.ref.row, .int .i64 nd.ref.col] 56))
  have hob := owns_lt hr
  have hn0 : Hid ((Value.slice la ll lc).ownBlock ≠ some w.heap.size) := hide (fun e => by have := (hob _ e).2; omega)
  have S0 : Hid (RdSt ((w.alloc (exO nd (.slice a len cap))).alloc (.cells #[.int .i64 nd.ref.row, .int .i64 nd.ref.col] 56)) B (.slice la ll lc) L (.slice la ll lc) ((w.alloc (exO nd (.slice a len cap))).alloc (.cells #[.int .i64 nd.ref.row, .int .i64 nd.ref.col] 56))) := hide (RdSt.start (owns_keep hr (fun x hx => by have := (hob x hx).2; exact (Below.heap_alloc _ _ x (by simp; omega)).trans (Below.heap_alloc _ _ x this))))
  obtain ⟨c0, c1, c2, c3, c4, c5, c6, c7, c8, c9, c10, c11, c12, c13⟩ := at14 nd (.slice a len cap)
  have x0 := (P0.out.at' 0).trans c0
  have y4 := ((Blk.new w (exC nd (.slice a len cap)) 29).at' 4).trans c4
  have y5 := ((Blk.new w (exC nd (.slice a len cap)) 29).at' 5).trans c5
  have hnk : nodesE (.mk nd ks) = 1 + nodesL ks := by rw [nodesE]
  rw [hnk] at hnl
  replace hnl := hide hnl
  replace hB := hide hB
  replace ht := hide ht
  replace ih := hide ih
  replace hks := hide hks.out
  replace hres := hide hres
  have e5 : (nd.kind == 5) = false := by simp [hk.1]
  have e6 : (nd.kind == 6) = false := by simp [hk.2]
  clear hk
  clear c0 c1 c2 c3 c4 c5 c6 c7 c8 c9 c10 c11 c12 harr hK ht' hr hob hnk
  go_enter Try.func37, Try.ntmps37
  go_wp2_with fail
  clear x0 y4 y5 e5 e6
  go_loopw [1, 6] (fun l i wr => ∃ (k : Nat) (a' : Option Addr) (l' c' : Nat), k ≤ len ∧ l = .slice a' l' c' ∧ i = .int .i64 k ∧ Hid (RdSt ((w.alloc (exO nd (.slice a len cap))).alloc (.cells #[.int .i64 nd.ref.row, .int .i64 nd.ref.col] 56)) B (.slice la ll lc) (L ++ readsL (ks.take k)) (.slice a' l' c') wr)) (fun _ i _ => len - (intOf i).toNat)
  case atStart => exact ⟨0, la, ll, lc, Nat.zero_le _, rfl, rfl, by rw [List.take_zero, readsL, List.append_nil]; exact S0⟩
  case round =>
    obtain ⟨k, a', l', c', hkl, rfl, rfl, HS⟩ := hrel
    have z13 := ((HS.out.blk P0.out hn0.out).at' 13).trans c13
    by_cases hlt : k < len
    · have p0 : (k : Int) < (len : Int) := by omega
      have hk1 : k < ks.length := by have := hlen.out; omega
      rcases hks.out with h0 | ⟨b0, o0, rfl, hm0, hkk⟩
      · exfalso; omega
      obtain ⟨cs, hin, hrk⟩ := hkk.get k hk1
      obtain ⟨aa, al, ac, rfl⟩ := hin.cs
      have hin' := HS.out.tree B2.out hin
      have R1 := hide (range_of_block hrk ((HS.out.gr.block b0 (by have := hm0.1; simp; omega) (Ne.symm hm0.2)).trans (B2.out.block b0 hm0.1)))
      have hnl' : (L ++ readsL (ks.take k)).length + nodesE ks[k] ≤ 100000 := by
        have := readsL_take_len ks k hk1
        have := hnl.out
        simp only [List.length_append]
        omega
      have IH := hide (ih.out _ (List.getElem_mem hk1) _ wr B a' l' c' _ hin' HS.out.row (Nat.le_trans hB.out (Nat.le_trans (by simp; omega) HS.out.gr.size)) hnl')
      have hsn : Hid (readsL (ks.take (k + 1)) = readsL (ks.take k) ++ readsE ks[k]) := hide (by rw [List.take_succ_eq_append_getElem hk1, readsL_snoc])
      have wk := IntWalk.wrap64_in ((k : Int) + 1) ⟨by omega, by have := hsml.out; omega⟩
      generalize ks[k] = tk' at *
      replace hm0 := hide hm0
      clear hin hin' hrk hnl' hkk
      go_wp2_with (first
        | (refine wpList_load_at rfl 29 _ rfl _ _ rfl _ _ (by with_reducible exact R1.out) Try.underlying29 rfl (exC_info _ _) ?_)
        | (go_at_call 37; refine IH.out.mono ?_; rintro e w5 ⟨a5, l5, c5, rfl, h5⟩; have S5 := hide (RdP.st HS.out h5); clear h5))
      refine ⟨⟨k + 1, a5, l5, c5, hlt, rfl, by rw [wk]; rfl, by rw [hsn.out, ← List.append_assoc]; exact S5⟩, ?_⟩
      rw [wk]
      exact meas_lt hlt
    · obtain rfl : k = len := by omega
      have hfin : Hid (RdSt w B (.slice la ll lc) (L ++ readsE (.mk nd ks)) (.slice a' l' c') wr) := hide (by
        have h := HS.out
        rw [List.take_of_length_le (by have := hlen.out; omega)] at h
        rw [hres.out]
        refine ⟨by simpa [List.append_assoc] using h.row, ⟨h.gr.os, h.gr.tape, h.gr.output, Nat.le_trans B2.out.size h.gr.size, fun j hj hne => (h.gr.block j (Nat.lt_of_lt_of_le hj B2.out.size) hne).trans (B2.out.block j hj)⟩, ?_⟩
        rcases h.ob with e | ⟨x, e, hx⟩
        · exact .inl e
        · exact .inr ⟨x, e, Nat.le_trans B2.out.size hx⟩)
      go_wp2_with fail
      go_ret
      exact ⟨_, _, _, rfl, hfin.out⟩
theorem mayR_zero9 {t : Ex} (h : mayR t = 0) : fitB t = true := by
  unfold mayR at h
  split at h
  · assumption
  · cases h
theorem rd_any : ∀ t, RdIs t := Ex.ind fun nd ks ih => by
  by_cases h5 : nd.kind = 5
  · exact rd_five nd ks h5 ih
  · by_cases h6 : nd.kind = 6
    · exact rd_six nd ks h6 ih
    · exact rd_else nd ks ⟨h5, h6⟩ ih
set_option maxHeartbeats 2000000 in
set_option maxRecDepth 100000 in
theorem rreads_any (t : Ex) (v : Value) (w : World) (ht : Tree w v t) : Calls Try.prog 18 #[v] w fun e w' => ReadsP w t e w' := by
  obtain ⟨nd, ks⟩ := t
  obtain ⟨a, len, cap, rfl, _, _, _, _⟩ := ht.un
  have P0 := hide (Blk.new w (exC nd (.slice a len cap)) 29)
  have B0 := hide (step (Below.refl w.heap.size w) (exO nd (.slice a len cap)))
  have HM := hide (rmay_any (.mk nd ks) _ _ (ht.step B0.out))
  by_cases hm : mayR (.mk nd ks) = 0
  · have hfit := of_decide_eq_true (mayR_zero9 hm)
    have HR := hide (fun w' (h : Below w.heap.size w w') => rd_any (.mk nd ks) (exV nd (.slice a len cap)) w' w'.heap.size none 0 0 [] ((ht.step h).wide (fun k hk => ⟨hk, by simp [Value.ownBlock]⟩)) ⟨rfl, .inl ⟨rfl, rfl⟩⟩ (Nat.le_refl _) (by simp; omega))
    rw [hm] at HM
    replace hm := hide hm
    clear ht hfit
    go_enter Try.func18, Try.ntmps18
    go_wp2_with (first
      | (refine wpList_load_blk rfl 29 _ rfl _ rfl _ (by with_reducible exact P0.out) _ Try.underlying29 rfl (exC_info _ _) ?_)
      | (go_at_call 20; refine HM.out.mono ?_; rintro e w1 ⟨rfl, hb⟩; have b1 := hide (next B0.out hb); have P1 := hide (P0.out.keep hb); clear hb)
      | (refine wpList_load_blk rfl 29 _ rfl _ rfl _ (by with_reducible exact P1.out) _ Try.underlying29 rfl (exC_info _ _) ?_)
      | (go_at_call 37; refine (HR.out _ b1.out).mono ?_; rintro e w2 ⟨a2, l2, c2, rfl, h2⟩; have b2 : Hid (Below w.heap.size w w2) := hide (b1.out.grown h2.gr b1.out.size (fun k e => by simp [Value.ownBlock] at e)); have r2 := hide (owns_base h2.row b1.out.size); clear h2))
    refine bodyPost_ret (v := .tuple #[.slice a2 l2 c2, .int .i64 0]) (by simp [results, Try.results18, go_sem]; try rfl) rfl ?_
    exact .inr ⟨hm.out, _, _, _, rfl, by have h := r2.out; rw [List.nil_append] at h; exact h, b2.out⟩
  · have hq : Hid (¬ mayR (.mk nd ks) = 0) := hide hm
    have hq2 : (mayR (.mk nd ks) == 0) = false := by simp [hm]
    have hq3 : (mayR (.mk nd ks) != 0) = true := by simp [hm]
    obtain ⟨m, hm'⟩ : ∃ m, mayR (.mk nd ks) = m := ⟨_, rfl⟩
    rw [hm'] at HM hq2 hq3
    rw [hm'] at hm
    replace hm' := hide hm'
    clear ht
    go_enter Try.func18, Try.ntmps18
    go_wp2_with (first
      | (refine wpList_load_blk rfl 29 _ rfl _ rfl _ (by with_reducible exact P0.out) _ Try.underlying29 rfl (exC_info _ _) ?_)
      | (go_at_call 20; refine HM.out.mono ?_; rintro e w1 ⟨rfl, hb⟩; have b1 := hide (next B0.out hb); clear hb))
    refine bodyPost_ret (v := .tuple #[.slice none 0 0, .int .i64 m]) (by simp [results, Try.results18, go_sem]; try rfl) rfl ?_
    exact .inl ⟨hq.out, by rw [hm'.out], b1.out⟩
end Go.Proofs.Ytgopolelpckjcaa
