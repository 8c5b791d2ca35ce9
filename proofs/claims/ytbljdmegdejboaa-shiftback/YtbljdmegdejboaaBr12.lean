/- quadrillelaw12.bare: a tree, all that speaks of places being one and the same. -/
import Derived.Test.YtbljdmegdejboaaNd12
namespace Go.Proofs.Ytbljdmegdejboaa
open Go.RowKit Go.Sort
set_option linter.unusedVariables false

def bareB (n : Nd) : Bool := decide (n.kind = 5 ∨ n.kind = 6 ∨ n.kind = 4 ∧ n.num = 3)
mutual
def bareE : Ex → Ex | .mk nd ks => if bareB nd then .mk lostN [] else .mk nd (bareL ks)
def bareL : List Ex → List Ex | [] => [] | k :: r => bareE k :: bareL r
end
theorem bareL_map : ∀ ks : List Ex, bareL ks = ks.map bareE
  | [] => by rw [bareL]; rfl
  | k :: r => by rw [bareL, bareL_map r]; rfl
theorem bareE_yes {nd : Nd} {ks : List Ex} (h : bareB nd = true) : bareE (.mk nd ks) = .mk lostN [] := by rw [bareE, h]; rfl
theorem bareE_no {nd : Nd} {ks : List Ex} (h : bareB nd = false) : bareE (.mk nd ks) = .mk nd (ks.map bareE) := by rw [bareE, h, bareL_map]; rfl
theorem bareN_mov (f : Mv) {n : Nd} {len : Nat} (h : toldB n len = true) : (bareB n = true → bareB (movN f n) = true) ∧ (bareB n = false → movN f n = n) := by
  refine ⟨fun hb => ?_, fun hb => movN_other f h (fun e => of_decide_eq_false hb (.inl e)) (fun e => of_decide_eq_false hb (.inr (.inl e)))⟩
  rcases of_decide_eq_true hb with h5 | h6 | h4
  · rw [movN_5 f h5 (by rw [(shape5 h h5).1])]
    split
    · exact decide_eq_true (.inl h5)
    · rfl
  · rw [movN_6 f h6]
    split
    · exact decide_eq_true (.inr (.inl h6))
    · rfl
  · rw [movN_other f h (by omega) (by omega)]; exact hb
mutual
theorem bare_mov (f : Mv) : ∀ t : Ex, allE t = true → bareE (movE f t) = bareE t
  | .mk nd ks, h => by
    obtain ⟨h1, h2⟩ := all_mk h
    obtain ⟨e1, e2⟩ := bareN_mov f h1
    rw [movE]
    cases q : bareB nd
    · rw [e2 q, bareE, bareE, q, bare_movL f ks h2]
    · rw [bareE_yes (e1 q), bareE_yes q]
theorem bare_movL (f : Mv) : ∀ ks : List Ex, allL ks = true → bareL (movL f ks) = bareL ks
  | [], h => by rw [movL]
  | k :: r, h => by
    obtain ⟨h1, h2⟩ := allL_cons h
    rw [movL, bareL, bareL, bare_mov f k h1, bare_movL f r h2]
end
mutual
theorem bare_nodes : ∀ t : Ex, nodesE (bareE t) ≤ nodesE t
  | .mk nd ks => by
    rw [bareE]
    split
    · rw [nodesE, nodesE, nodesL]; omega
    · rw [nodesE, nodesE]; have := bare_nodesL ks; omega
theorem bare_nodesL : ∀ ks : List Ex, nodesL (bareL ks) ≤ nodesL ks
  | [] => by rw [bareL]; exact Nat.le_refl _
  | k :: r => by rw [bareL, nodesL, nodesL]; have := bare_nodes k; have := bare_nodesL r; omega
end
mutual
theorem bare_sm : ∀ t : Ex, SmE t → SmE (bareE t)
  | .mk nd ks, h => by
    rw [bareE]
    split
    · exact sm_leaf (Nat.zero_le _)
    · unfold SmE at h ⊢; exact ⟨h.1, by rw [bareL_map]; simpa using h.2.1, bare_smL ks h.2.2⟩
theorem bare_smL : ∀ ks : List Ex, SmL ks → SmL (bareL ks)
  | [], h => by rw [bareL]; exact h
  | k :: r, h => by rw [bareL]; unfold SmL at h ⊢; exact ⟨bare_sm k h.1, bare_smL r h.2⟩
end
theorem New.alloc {w w1 : World} {v : Value} {t : Ex} {bs : List Nat} (h : New w w1 v t bs) (o : Obj) : New w (w1.alloc o) v t bs :=
  ⟨h.ow.move _ (fun k hk => Below.heap_alloc w1 o k (h.at' k hk).2), h.nd, fun k hk => by have := h.at' k hk; simp; omega⟩
theorem NewP.tree {w : World} {n : Nd} {ks : List Ex} {e : Ending} {w' : World} (h : NewP w (.mk n ks) e w') : ∃ a len cap bs, e = .returned (exV n (.slice a len cap)) ∧ New w w' (exV n (.slice a len cap)) (.mk n ks) bs ∧ Below w.heap.size w w' := h
theorem newP_tree {w : World} {n : Nd} {ks : List Ex} {e : Ending} {w' : World} (h : NewP w (.mk n ks) e w') (hs : SmE (.mk n ks)) : ∃ a len cap, e = .returned (exV n (.slice a len cap)) ∧ Tree w' (exV n (.slice a len cap)) (.mk n ks) ∧ Below w.heap.size w w' := by
  obtain ⟨a, len, cap, bs, h1, h2, h3⟩ := h
  exact ⟨a, len, cap, h1, h2.ow.in' _ (fun x hx => (h2.at' x hx).2) hs, h3⟩
abbrev BareIs (t : Ex) : Prop := ∀ (v : Value) (w : World), Tree w v t → nodesE t ≤ 512 → Calls Try.prog 14 #[v] w fun e w' => NewP w (bareE t) e w'
theorem new_leaf {w w' : World} {n : Nd} (hb : Below w.heap.size w w') : New w w' (exV n (.slice none 0 0)) (.mk n []) [] := ⟨by unfold Ow; exact ⟨_, _, _, rfl, rfl, .inl ⟨rfl, rfl, rfl, rfl⟩⟩, List.nodup_nil, fun x hx => by cases hx⟩
set_option maxHeartbeats 1000000 in
set_option maxRecDepth 100000 in
theorem bare_5 (nd : Nd) (s : Value) (w : World) (k5 : (nd.kind == 5) = true) : Calls Try.prog 14 #[exV nd s] w fun e w' => NewP w (.mk lostN []) e w' := by
  have c0 := (at14 nd s).c0
  have c2 := (at14 nd s).c2
  have P0 := (Blk.new w (exC nd s) 29).alloc (exO nd0 (.slice none 0 0))
  have P1 := hide (Blk.new1 w (exO nd s) (exC nd0 (.slice none 0 0)) 29)
  have B2 := hide (step (step (Below.refl w.heap.size w) (exO nd s)) (exO nd0 (.slice none 0 0)))
  have q0 := (P0.at' 0).trans c0
  have q2 := (P0.at' 2).trans c2
  have hsn := run_putnew (w.alloc (exO nd s)) lostN none 0 0
  simp only [World.size_alloc] at hsn
  go_enter Try.func14, Try.ntmps14
  go_wp2_with fail
  refine bodyPost_ret (v := exV lostN (.slice none 0 0)) (results_cell_row Try.results14 _ _ (w.heap.size + 1) 29 (exC lostN (.slice none 0 0)) (0, 0) _ rfl (Blk.new1 w (exO nd s) (exC lostN (.slice none 0 0)) 29) Try.underlying29 rfl (exC_info _ _)) rfl ?_
  have bb : Below w.heap.size w ((w.alloc (exO nd s)).alloc (exO lostN (.slice none 0 0))) := step (step (Below.refl w.heap.size w) (exO nd s)) (exO lostN (.slice none 0 0))
  exact ⟨_, _, _, _, rfl, new_leaf bb, bb⟩
set_option maxHeartbeats 1000000 in
set_option maxRecDepth 100000 in
theorem bare_6 (nd : Nd) (s : Value) (w : World) (k5 : (nd.kind == 5) = false) (k6 : (nd.kind == 6) = true) : Calls Try.prog 14 #[exV nd s] w fun e w' => NewP w (.mk lostN []) e w' := by
  have c0 := (at14 nd s).c0
  have c2 := (at14 nd s).c2
  have P0 := (Blk.new w (exC nd s) 29).alloc (exO nd0 (.slice none 0 0))
  have P1 := hide (Blk.new1 w (exO nd s) (exC nd0 (.slice none 0 0)) 29)
  have B2 := hide (step (step (Below.refl w.heap.size w) (exO nd s)) (exO nd0 (.slice none 0 0)))
  have q0 := (P0.at' 0).trans c0
  have q2 := (P0.at' 2).trans c2
  have hsn := run_putnew (w.alloc (exO nd s)) lostN none 0 0
  simp only [World.size_alloc] at hsn
  go_enter Try.func14, Try.ntmps14
  go_wp2_with fail
  refine bodyPost_ret (v := exV lostN (.slice none 0 0)) (results_cell_row Try.results14 _ _ (w.heap.size + 1) 29 (exC lostN (.slice none 0 0)) (0, 0) _ rfl (Blk.new1 w (exO nd s) (exC lostN (.slice none 0 0)) 29) Try.underlying29 rfl (exC_info _ _)) rfl ?_
  have bb : Below w.heap.size w ((w.alloc (exO nd s)).alloc (exO lostN (.slice none 0 0))) := step (step (Below.refl w.heap.size w) (exO nd s)) (exO lostN (.slice none 0 0))
  exact ⟨_, _, _, _, rfl, new_leaf bb, bb⟩
set_option maxHeartbeats 1000000 in
set_option maxRecDepth 100000 in
theorem bare_4 (nd : Nd) (s : Value) (w : World) (k5 : (nd.kind == 5) = false) (k6 : (nd.kind == 6) = false) (k4 : (nd.kind == 4) = true) (k3 : (nd.num == 3) = true) : Calls Try.prog 14 #[exV nd s] w fun e w' => NewP w (.mk lostN []) e w' := by
  have c0 := (at14 nd s).c0
  have c2 := (at14 nd s).c2
  have P0 := (Blk.new w (exC nd s) 29).alloc (exO nd0 (.slice none 0 0))
  have P1 := hide (Blk.new1 w (exO nd s) (exC nd0 (.slice none 0 0)) 29)
  have B2 := hide (step (step (Below.refl w.heap.size w) (exO nd s)) (exO nd0 (.slice none 0 0)))
  have q0 := (P0.at' 0).trans c0
  have q2 := (P0.at' 2).trans c2
  have hsn := run_putnew (w.alloc (exO nd s)) lostN none 0 0
  simp only [World.size_alloc] at hsn
  go_enter Try.func14, Try.ntmps14
  go_wp2_with fail
  refine bodyPost_ret (v := exV lostN (.slice none 0 0)) (results_cell_row Try.results14 _ _ (w.heap.size + 1) 29 (exC lostN (.slice none 0 0)) (0, 0) _ rfl (Blk.new1 w (exO nd s) (exC lostN (.slice none 0 0)) 29) Try.underlying29 rfl (exC_info _ _)) rfl ?_
  have bb : Below w.heap.size w ((w.alloc (exO nd s)).alloc (exO lostN (.slice none 0 0))) := step (step (Below.refl w.heap.size w) (exO nd s)) (exO lostN (.slice none 0 0))
  exact ⟨_, _, _, _, rfl, new_leaf bb, bb⟩
set_option maxHeartbeats 2000000 in
set_option maxRecDepth 100000 in
theorem bare_n4 (nd : Nd) (ks : List Ex) (ih : ∀ k ∈ ks, BareIs k) (a : Option Addr) (len cap : Nat) (w : World) (ht : Tree w (exV nd (.slice a len cap)) (.mk nd ks)) (hn : nodesE (.mk nd ks) ≤ 512) (k5 : (nd.kind == 5) = false) (k6 : (nd.kind == 6) = false) (k4 : (nd.kind == 4) = false) :
    Calls Try.prog 14 #[exV nd (.slice a len cap)] w fun e w' => NewP w (.mk nd (ks.map bareE)) e w' := by
  have hK := ht.kidsAt
  have hlen := hide hK.lq
  have hle : Hid (len ≤ 511) := hide (by have := hlen.out; have := len_nodes ks; rw [nodesE] at hn; omega)
  have hnk : Hid (∀ k ∈ ks, nodesE k ≤ 512) := hide (fun k hk => by have := nodes_mem hk; rw [nodesE] at hn; omega)
  have c13 := (at14 nd (.slice a len cap)).c13
  have c0 := (at14 nd (.slice a len cap)).c0
  have c2 := (at14 nd (.slice a len cap)).c2
  have hB2 := hide (step (step (Below.refl w.heap.size w) (exO nd (.slice a len cap))) (exO nd0 (.slice none 0 0)))
  have P0 := hide ((Blk.new w (exC nd (.slice a len cap)) 29).alloc (exO nd0 (.slice none 0 0)))
  have P1 := hide (Blk.new1 w (exO nd (.slice a len cap)) (exC nd0 (.slice none 0 0)) 29)
  have S2 : Hid (((w.alloc (exO nd (.slice a len cap))).alloc (exO nd0 (.slice none 0 0))).heap.size = w.heap.size + 1 + 1) := hide (by simp)
  have hml : Hid ((ks.map bareE).length = ks.length) := hide (by simp)
  have hst : OnSt ((w.alloc (exO nd (.slice a len cap))).alloc (exO nd0 (.slice none 0 0))) (ks.map bareE) 0 ((w.alloc (exO nd (.slice a len cap))).alloc (exO nd0 (.slice none 0 0))) (.slice none 0 0) [] [] := ⟨Below.refl _ _, ⟨rfl, .inl ⟨rfl, rfl⟩⟩, rfl, List.nodup_nil, fun x hx => by cases hx⟩
  have q0 := (P0.out.at' 0).trans c0
  have q2 := (P0.out.at' 2).trans c2
  replace hst := hide hst
  replace hK := hide hK
  replace ih := hide ih
  clear ht hn
  go_enter Try.func14, Try.ntmps14
  go_wp2_with fail
  clear q0 q2
  go_loopw [3, 4] (fun l i wr => ∃ (k : Nat) (css : List (Array Value)) (bs : List Nat) (la : Option Addr) (ll lc : Nat), k ≤ len ∧ l = .slice la ll lc ∧ i = .int .i64 k ∧ Hid (OnSt ((w.alloc (exO nd (.slice a len cap))).alloc (exO nd0 (.slice none 0 0))) (ks.map bareE) k wr (.slice la ll lc) css bs)) (fun _ i _ => len - (intOf i).toNat)
  case atStart => exact ⟨0, [], [], none, 0, 0, Nat.zero_le _, rfl, rfl, hst⟩
  case round =>
    obtain ⟨k, css, bs, la, ll, lc, hkl, rfl, rfl, HC⟩ := hrel
    have z13 := ((P0.out.keep HC.out.low).at' 13).trans c13
    by_cases hlt : k < len
    · have p0 : (k : Int) < (len : Int) := by omega
      obtain ⟨b, o, rfl, hk, aa, kl, cc, tk, rk⟩ := hK.out.get hlt
      have belw := hide (next hB2.out HC.out.low)
      have R1 := hide (range_of_block rk (belw.out.block b (World.block_lt_of_cell? w ⟨b, _, none⟩ (rk 0 _ rfl))))
      have IH := hide (ih.out _ (List.getElem_mem hk) _ wr (tk.step belw.out) (hnk.out _ (List.getElem_mem hk)))
      have hcl : Hid (css.length < 1000000) := hide (by have := HC.out.kids.len.1; rw [this, List.length_take]; have := hle.out; have := hlen.out; have := hml.out; omega)
      have hstep := hide (fun (w2 w3 : World) (n : Nd) (sa : Option Addr) (sl sc : Nat) (bk : List Nat) (v' : Value) => HC.out.step (w2 := w2) (w3 := w3) (n := n) (sa := sa) (sl := sl) (sc := sc) (bk := bk) (v' := v') (by have := hml.out; omega))
      have hgm : (ks.map bareE)[k]'(by have := hml.out; omega) = bareE ks[k] := by simp
      rw [hgm] at hstep
      generalize ks[k] = tk' at *
      obtain ⟨bn, bk', hbe⟩ : ∃ bn bk', bareE tk' = .mk bn bk' := by cases bareE tk'; exact ⟨_, _, rfl⟩
      rw [hbe] at IH hstep
      have wk := IntWalk.wrap64_in ((k : Int) + 1) ⟨by omega, by have := hle.out; omega⟩
      clear tk rk hgm hbe
      go_wp2_with (first
        | (refine wpList_load_at rfl 29 _ rfl _ _ rfl _ _ (by with_reducible exact R1.out) Try.underlying29 rfl (exC_info _ _) ?_))
      refine IH.out.mono ?_
      intro e w2 hh
      obtain ⟨ak, lk, ck, bk, rfl, hN, hb2⟩ := hh.tree
      have hsn := run_putnew w2 bn ak lk ck
      have K2 := hide (Blk.new w2 (exC bn (.slice ak lk ck)) 29)
      have hN' := hide (hN.alloc (exO bn (.slice ak lk ck)))
      have hb' := hide (step hb2 (exO bn (.slice ak lk ck)))
      have hrx : Hid (RowX ((w2.alloc (exO bn (.slice ak lk ck))).alloc (exO bn (.slice ak lk ck))) ((w.alloc (exO nd (.slice (some ⟨b, o, none⟩) len cap))).alloc (exO nd0 (.slice none 0 0))).heap.size (.slice la ll lc) css) := hide (owns_keep (w' := (w2.alloc (exO bn (.slice ak lk ck))).alloc (exO bn (.slice ak lk ck))) HC.out.row (fun x hx => by have := (owns_lt HC.out.row x hx).2; exact (step hb'.out (exO bn (.slice ak lk ck))).block x this))
      have hrg := hide (range_ex (w2.alloc (exO bn (.slice ak lk ck))) bn (.slice ak lk ck))
      have hbs : Hid (((w.alloc (exO nd (.slice (some ⟨b, o, none⟩) len cap))).alloc (exO nd0 (.slice none 0 0))).heap.size ≤ ((w2.alloc (exO bn (.slice ak lk ck))).alloc (exO bn (.slice ak lk ck))).heap.size) := hide (Nat.le_trans HC.out.low.size (step hb'.out (exO bn (.slice ak lk ck))).size)
      rw [World.size_alloc] at hrg
      clear hh hN hb2
      go_wp2_with (first
        | (refine wpList_load_blk rfl 29 _ rfl _ rfl _ (by with_reducible exact K2.out) _ Try.underlying29 rfl (exC_info _ _) ?_)
        | (refine Go.Great.wpList_buildSliceTo rfl 27 29 1 _ rfl (w2.heap.size + 1) (by simp) _ rfl Try.underlying27 (exC bn (.slice ak lk ck)) (by rw [Array.toList_map]; exact built1 _ _) ?_)
        | (at_builtin; refine wpList_appX (v := .slice la ll lc) (css := css) (n := bn) (sa := ak) (sl := lk) (sc := ck) rfl _ _ rfl rfl rfl hrx.out hrg.out hcl.out hbs.out ?_; intro v' w3 r1 r2 r3; obtain ⟨va, vl, vc, rfl⟩ := owns_shape9 r1; have hnx := hide (hstep.out _ _ _ _ _ _ _ _ hN'.out hb'.out r1 r2 r3); clear r1 r2 r3))
      refine ⟨⟨k + 1, _, _, _, _, _, hlt, rfl, by rw [wk]; rfl, hnx⟩, ?_⟩
      rw [wk]
      exact meas_lt hlt
    · obtain rfl : k = len := by omega
      obtain ⟨hN, hgt⟩ := onst_end (nd := nd) S2.out (by rw [hml.out]; exact hlen.out) HC.out
      obtain ⟨F1, F2, F3, F4, F5⟩ := cp_fin (next hB2.out HC.out.low) (P0.out.keep HC.out.low) (P1.out.keep HC.out.low) hN hgt
      have q1 := (P0.out.keep HC.out.low).fr 13
      replace F4 := hide F4
      replace F5 := hide F5
      clear hN hgt
      go_wp2_with (first
        | (refine wpList_load_blk rfl 29 _ rfl _ rfl _ (by with_reducible exact F1) _ Try.underlying29 rfl (exC_info _ _) ?_)
        | (refine wpList_store_row rfl 29 _ _ rfl _ (exC nd (.slice la ll lc)) rfl rfl 29 _ F2 (exC_info _ _) (by rfl) (exC_one _ _ _ _) ?_))
      refine bodyPost_ret (v := exV nd (.slice la ll lc)) (results_cell_row Try.results14 _ _ (w.heap.size + 1) 29 (exC nd (.slice la ll lc)) (0, 0) _ rfl F3 Try.underlying29 rfl (exC_info _ _)) rfl ?_
      exact ⟨_, _, _, _, rfl, F4.out, F5.out⟩
set_option maxHeartbeats 2000000 in
set_option maxRecDepth 100000 in
theorem bare_n3 (nd : Nd) (ks : List Ex) (ih : ∀ k ∈ ks, BareIs k) (a : Option Addr) (len cap : Nat) (w : World) (ht : Tree w (exV nd (.slice a len cap)) (.mk nd ks)) (hn : nodesE (.mk nd ks) ≤ 512) (k5 : (nd.kind == 5) = false) (k6 : (nd.kind == 6) = false) (k4 : (nd.kind == 4) = true) (k3 : (nd.num == 3) = false) :
    Calls Try.prog 14 #[exV nd (.slice a len cap)] w fun e w' => NewP w (.mk nd (ks.map bareE)) e w' := by
  have hK := ht.kidsAt
  have hlen := hide hK.lq
  have hle : Hid (len ≤ 511) := hide (by have := hlen.out; have := len_nodes ks; rw [nodesE] at hn; omega)
  have hnk : Hid (∀ k ∈ ks, nodesE k ≤ 512) := hide (fun k hk => by have := nodes_mem hk; rw [nodesE] at hn; omega)
  have c13 := (at14 nd (.slice a len cap)).c13
  have c0 := (at14 nd (.slice a len cap)).c0
  have c2 := (at14 nd (.slice a len cap)).c2
  have hB2 := hide (step (step (Below.refl w.heap.size w) (exO nd (.slice a len cap))) (exO nd0 (.slice none 0 0)))
  have P0 := hide ((Blk.new w (exC nd (.slice a len cap)) 29).alloc (exO nd0 (.slice none 0 0)))
  have P1 := hide (Blk.new1 w (exO nd (.slice a len cap)) (exC nd0 (.slice none 0 0)) 29)
  have S2 : Hid (((w.alloc (exO nd (.slice a len cap))).alloc (exO nd0 (.slice none 0 0))).heap.size = w.heap.size + 1 + 1) := hide (by simp)
  have hml : Hid ((ks.map bareE).length = ks.length) := hide (by simp)
  have hst : OnSt ((w.alloc (exO nd (.slice a len cap))).alloc (exO nd0 (.slice none 0 0))) (ks.map bareE) 0 ((w.alloc (exO nd (.slice a len cap))).alloc (exO nd0 (.slice none 0 0))) (.slice none 0 0) [] [] := ⟨Below.refl _ _, ⟨rfl, .inl ⟨rfl, rfl⟩⟩, rfl, List.nodup_nil, fun x hx => by cases hx⟩
  have q0 := (P0.out.at' 0).trans c0
  have q2 := (P0.out.at' 2).trans c2
  replace hst := hide hst
  replace hK := hide hK
  replace ih := hide ih
  clear ht hn
  go_enter Try.func14, Try.ntmps14
  go_wp2_with fail
  clear q0 q2
  go_loopw [3, 4] (fun l i wr => ∃ (k : Nat) (css : List (Array Value)) (bs : List Nat) (la : Option Addr) (ll lc : Nat), k ≤ len ∧ l = .slice la ll lc ∧ i = .int .i64 k ∧ Hid (OnSt ((w.alloc (exO nd (.slice a len cap))).alloc (exO nd0 (.slice none 0 0))) (ks.map bareE) k wr (.slice la ll lc) css bs)) (fun _ i _ => len - (intOf i).toNat)
  case atStart => exact ⟨0, [], [], none, 0, 0, Nat.zero_le _, rfl, rfl, hst⟩
  case round =>
    obtain ⟨k, css, bs, la, ll, lc, hkl, rfl, rfl, HC⟩ := hrel
    have z13 := ((P0.out.keep HC.out.low).at' 13).trans c13
    by_cases hlt : k < len
    · have p0 : (k : Int) < (len : Int) := by omega
      obtain ⟨b, o, rfl, hk, aa, kl, cc, tk, rk⟩ := hK.out.get hlt
      have belw := hide (next hB2.out HC.out.low)
      have R1 := hide (range_of_block rk (belw.out.block b (World.block_lt_of_cell? w ⟨b, _, none⟩ (rk 0 _ rfl))))
      have IH := hide (ih.out _ (List.getElem_mem hk) _ wr (tk.step belw.out) (hnk.out _ (List.getElem_mem hk)))
      have hcl : Hid (css.length < 1000000) := hide (by have := HC.out.kids.len.1; rw [this, List.length_take]; have := hle.out; have := hlen.out; have := hml.out; omega)
      have hstep := hide (fun (w2 w3 : World) (n : Nd) (sa : Option Addr) (sl sc : Nat) (bk : List Nat) (v' : Value) => HC.out.step (w2 := w2) (w3 := w3) (n := n) (sa := sa) (sl := sl) (sc := sc) (bk := bk) (v' := v') (by have := hml.out; omega))
      have hgm : (ks.map bareE)[k]'(by have := hml.out; omega) = bareE ks[k] := by simp
      rw [hgm] at hstep
      generalize ks[k] = tk' at *
      obtain ⟨bn, bk', hbe⟩ : ∃ bn bk', bareE tk' = .mk bn bk' := by cases bareE tk'; exact ⟨_, _, rfl⟩
      rw [hbe] at IH hstep
      have wk := IntWalk.wrap64_in ((k : Int) + 1) ⟨by omega, by have := hle.out; omega⟩
      clear tk rk hgm hbe
      go_wp2_with (first
        | (refine wpList_load_at rfl 29 _ rfl _ _ rfl _ _ (by with_reducible exact R1.out) Try.underlying29 rfl (exC_info _ _) ?_))
      refine IH.out.mono ?_
      intro e w2 hh
      obtain ⟨ak, lk, ck, bk, rfl, hN, hb2⟩ := hh.tree
      have hsn := run_putnew w2 bn ak lk ck
      have K2 := hide (Blk.new w2 (exC bn (.slice ak lk ck)) 29)
      have hN' := hide (hN.alloc (exO bn (.slice ak lk ck)))
      have hb' := hide (step hb2 (exO bn (.slice ak lk ck)))
      have hrx : Hid (RowX ((w2.alloc (exO bn (.slice ak lk ck))).alloc (exO bn (.slice ak lk ck))) ((w.alloc (exO nd (.slice (some ⟨b, o, none⟩) len cap))).alloc (exO nd0 (.slice none 0 0))).heap.size (.slice la ll lc) css) := hide (owns_keep (w' := (w2.alloc (exO bn (.slice ak lk ck))).alloc (exO bn (.slice ak lk ck))) HC.out.row (fun x hx => by have := (owns_lt HC.out.row x hx).2; exact (step hb'.out (exO bn (.slice ak lk ck))).block x this))
      have hrg := hide (range_ex (w2.alloc (exO bn (.slice ak lk ck))) bn (.slice ak lk ck))
      have hbs : Hid (((w.alloc (exO nd (.slice (some ⟨b, o, none⟩) len cap))).alloc (exO nd0 (.slice none 0 0))).heap.size ≤ ((w2.alloc (exO bn (.slice ak lk ck))).alloc (exO bn (.slice ak lk ck))).heap.size) := hide (Nat.le_trans HC.out.low.size (step hb'.out (exO bn (.slice ak lk ck))).size)
      rw [World.size_alloc] at hrg
      clear hh hN hb2
      go_wp2_with (first
        | (refine wpList_load_blk rfl 29 _ rfl _ rfl _ (by with_reducible exact K2.out) _ Try.underlying29 rfl (exC_info _ _) ?_)
        | (refine Go.Great.wpList_buildSliceTo rfl 27 29 1 _ rfl (w2.heap.size + 1) (by simp) _ rfl Try.underlying27 (exC bn (.slice ak lk ck)) (by rw [Array.toList_map]; exact built1 _ _) ?_)
        | (at_builtin; refine wpList_appX (v := .slice la ll lc) (css := css) (n := bn) (sa := ak) (sl := lk) (sc := ck) rfl _ _ rfl rfl rfl hrx.out hrg.out hcl.out hbs.out ?_; intro v' w3 r1 r2 r3; obtain ⟨va, vl, vc, rfl⟩ := owns_shape9 r1; have hnx := hide (hstep.out _ _ _ _ _ _ _ _ hN'.out hb'.out r1 r2 r3); clear r1 r2 r3))
      refine ⟨⟨k + 1, _, _, _, _, _, hlt, rfl, by rw [wk]; rfl, hnx⟩, ?_⟩
      rw [wk]
      exact meas_lt hlt
    · obtain rfl : k = len := by omega
      obtain ⟨hN, hgt⟩ := onst_end (nd := nd) S2.out (by rw [hml.out]; exact hlen.out) HC.out
      obtain ⟨F1, F2, F3, F4, F5⟩ := cp_fin (next hB2.out HC.out.low) (P0.out.keep HC.out.low) (P1.out.keep HC.out.low) hN hgt
      have q1 := (P0.out.keep HC.out.low).fr 13
      replace F4 := hide F4
      replace F5 := hide F5
      clear hN hgt
      go_wp2_with (first
        | (refine wpList_load_blk rfl 29 _ rfl _ rfl _ (by with_reducible exact F1) _ Try.underlying29 rfl (exC_info _ _) ?_)
        | (refine wpList_store_row rfl 29 _ _ rfl _ (exC nd (.slice la ll lc)) rfl rfl 29 _ F2 (exC_info _ _) (by rfl) (exC_one _ _ _ _) ?_))
      refine bodyPost_ret (v := exV nd (.slice la ll lc)) (results_cell_row Try.results14 _ _ (w.heap.size + 1) 29 (exC nd (.slice la ll lc)) (0, 0) _ rfl F3 Try.underlying29 rfl (exC_info _ _)) rfl ?_
      exact ⟨_, _, _, _, rfl, F4.out, F5.out⟩
theorem bare_any : ∀ t, BareIs t := by
  refine Ex.ind fun nd ks ih => ?_
  intro v w ht hn
  obtain ⟨a, len, cap, rfl, _, _, _, _⟩ := ht.un
  by_cases h5 : nd.kind = 5
  · rw [bareE_yes (decide_eq_true (.inl h5))]; exact bare_5 nd _ w (by simp [h5])
  by_cases h6 : nd.kind = 6
  · rw [bareE_yes (decide_eq_true (.inr (.inl h6)))]; exact bare_6 nd _ w (by simp [h5]) (by simp [h6])
  by_cases h4 : nd.kind = 4
  · by_cases h3 : nd.num = 3
    · rw [bareE_yes (decide_eq_true (.inr (.inr ⟨h4, h3⟩)))]; exact bare_4 nd _ w (by simp [h5]) (by simp [h6]) (by simp [h4]) (by simp [h3])
    · rw [bareE_no (decide_eq_false (by intro h; rcases h with h | h | h; exact h5 h; exact h6 h; exact h3 h.2))]
      exact bare_n3 nd ks ih a len cap w ht hn (by simp [h5]) (by simp [h6]) (by simp [h4]) (by simp [h3])
  · rw [bareE_no (decide_eq_false (by intro h; rcases h with h | h | h; exact h5 h; exact h6 h; exact h4 h.1))]
    exact bare_n4 nd ks ih a len cap w ht hn (by simp [h5]) (by simp [h6]) (by simp [h4])
end Go.Proofs.Ytbljdmegdejboaa
