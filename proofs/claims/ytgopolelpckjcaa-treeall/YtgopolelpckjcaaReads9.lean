/- tree.Reads' closure: the areas that a node speaks of are put at a list's end. -/
import Derived.Test.YtgopolelpckjcaaApp9
import Derived.Test.YtgopolelpckjcaaOverF9
import Derived.Test.YtgopolelpckjcaaTold9
import Derived.Deep.RegionLaw
namespace Go.Proofs.Ytgopolelpckjcaa
open Go.RowKit Go.Sort
set_option linter.unusedVariables false

/-- What a node itself speaks of. -/
def arOf (n : Nd) : List Ar := if n.kind = 5 then [ofA n.ref.row n.ref.col n.ref.row n.ref.col] else if n.kind = 6 then [ofA n.ref.row n.ref.col n.to.row n.to.col] else []
def rdSt (s : List Ar) (nd : Nd) (len : Nat) (d : Int) : Bool × List Ar := (true, s ++ arOf nd)
/-- The list lies there, and its variable. -/
def Rd (Bv : Nat) (L : List Ar) (w : World) : Prop := ∃ v, Blk w Bv #[v] 41 ∧ RowA w (Bv + 1) v L
def RdF (Bv : Nat) (w : World) (k : Nat) : Prop := k = Bv ∨ ∃ v, Blk w Bv #[v] 41 ∧ v.ownBlock = some k
theorem Rd.f {Bv : Nat} {L : List Ar} {w : World} {v : Value} (h1 : Blk w Bv #[v] 41) {k : Nat} (h : RdF Bv w k) : k = Bv ∨ v.ownBlock = some k := by
  rcases h with h | ⟨v', h2, h3⟩
  · exact .inl h
  · have : (#[v'] : Array Value) = #[v] := by
      have := h2.symm.trans h1
      simpa using this
    have : v' = v := by simpa using this
    subst this
    exact .inr h3
theorem Rd.same {Bv : Nat} {L : List Ar} {w w' : World} (h : Rd Bv L w) (e : ∀ k, RdF Bv w k → k < w.heap.size → w'.heap[k]? = w.heap[k]?) : Rd Bv L w' ∧ ∀ k, RdF Bv w' k → RdF Bv w k := by
  obtain ⟨v, h1, h2⟩ := h
  have h1' : Blk w' Bv #[v] 41 := (e _ (.inl rfl) h1.lt).trans h1
  refine ⟨⟨v, h1', owns_keep h2 (fun k hk => e k (.inr ⟨v, h1, hk⟩) (owns_lt h2 k hk).2)⟩, fun k hk => ?_⟩
  rcases Rd.f (L := L) h1' hk with h | h
  · exact .inl h
  · exact .inr ⟨v, h1, h⟩
theorem Rd.lt {Bv : Nat} {L : List Ar} {w : World} (h : Rd Bv L w) : ∀ k, RdF Bv w k → k < w.heap.size := by
  intro k hk
  obtain ⟨v, h1, h2⟩ := h
  rcases Rd.f (L := L) h1 hk with rfl | h
  · exact h1.lt
  · exact (owns_lt h2 k h).2
/-- One area more: the list is turned, or laid anew; its variable holds it. -/
theorem rd_put {Bv : Nat} {L : List Ar} {x : Ar} {w w1 w2 : World} {v v' : Value} (hb : Below w.heap.size w w1) (h1 : Blk w Bv #[v] 41) (h2 : RowA w (Bv + 1) v L) (h3 : RowA w2 (Bv + 1) v' (L ++ [x])) (hg : w1.grownBy w2 v.ownBlock) (hv : v'.ownBlock = v.ownBlock ∨ v'.ownBlock = some w1.heap.size) :
    Rd Bv (L ++ [x]) (w2.setCell ⟨Bv, 0, none⟩ v') ∧ ChF (RdF Bv) w (w2.setCell ⟨Bv, 0, none⟩ v') := by
  have hne : v.ownBlock ≠ some Bv := fun e => by have := (owns_lt h2 _ e).1; omega
  have b1 : Blk w1 Bv #[v] 41 := h1.keep hb
  have b2 : Blk w2 Bv #[v] 41 := (hg.block Bv b1.lt (Ne.symm hne)).trans b1
  have b3 : Blk (w2.setCell ⟨Bv, 0, none⟩ v') Bv #[v'] 41 := b2.set 0 v'
  have hne' : v'.ownBlock ≠ some Bv := fun e => by have := (owns_lt h3 _ e).1; omega
  refine ⟨⟨v', b3, owns_keep h3 (fun k hk => Below.heap_setCell _ _ _ k (fun e => hne' (by rw [hk]; simp only at e; rw [e])))⟩, ⟨hg.os.trans hb.os, hg.tape.trans hb.tape, hg.output.trans hb.output, by simp; exact Nat.le_trans hb.size hg.size, fun k hk hn => ?_⟩, fun k hk e => ?_⟩
  · have hkB : k ≠ Bv := fun e => hn (.inl e)
    have hko : some k ≠ v.ownBlock := fun e => hn (.inr ⟨v, h1, e.symm⟩)
    rw [Below.heap_setCell _ _ _ k hkB, hg.block k (Nat.lt_of_lt_of_le hk hb.size) hko]
    exact hb.block k hk
  · rcases Rd.f (L := L) b3 e with h | h
    · exact .inl h
    · rcases hv with hv | hv
      · exact .inr ⟨v, h1, by rw [← hv]; exact h⟩
      · rw [hv] at h
        have : w1.heap.size = k := by simpa using h
        have := hb.size
        omega
theorem step_call {ops : Array Oper} {o : Oper} {a : Act} {w : World} {Kn : Act → World → Prop} {Q : Exit → Act → World → Prop} {E : Prop} (hgd : o.guard = none) (f : Nat) (xs : Array Operand) (ts : Array TypeId)
    (ho : o.op = .call { callee := .value (.func f), args := xs, argTypes := ts }) (hent : ∀ args w, (callFunc f args).run Try.prog w = .ok (.enter f args) w) (args : Array Value) (hargs : xs.map a.eval = args) {v : Value} {R : World → Prop}
    (hC : Calls Try.prog f args w fun e w' => e = .returned v ∧ R w') (h : ∀ w', R w' → Kn (a.put o.dst v) w') : if Region.wanted o (yielded ops a.tmps) = true then Oper.wp Try.prog o a w Kn Q else E := by
  have hw : Region.wanted o (yielded ops a.tmps) = true := by simp [Region.wanted, hgd]
  rw [if_pos hw]
  have he : a.eval (.func f) = .func (.func f) #[] #[] := rfl
  unfold Oper.wp execOp
  simp [ho, resolve, invoke, hargs, he, Deferred.ofValue, hent]
  refine hC.mono ?_
  rintro e w' ⟨rfl, hR⟩
  exact h w' hR
theorem range_arC (w : World) (x : Ar) : (w.alloc (.cells #[.int .i64 x.1, .int .i64 x.2.1, .int .i64 x.2.2.1, .int .i64 x.2.2.2] 47)).rangeAt w.heap.size 0 (arC x) := by
  have := World.rangeAt_of_block (heap_alloc_new w (.cells #[.int .i64 x.1, .int .i64 x.2.1, .int .i64 x.2.2.1, .int .i64 x.2.2.2] 47)) 0 4
  simpa using this
theorem step_appA {ops : Array Oper} {o : Oper} {a : Act} {w : World} {Kn : Act → World → Prop} {Q : Exit → Act → World → Prop} {E : Prop} {B X : Nat} {v : Value} {L : List Ar} {x : Ar} (hgd : o.guard = none) (sl y : Operand)
    (ho : o.op = .call { callee := .builtin .append, args := #[sl, y], argTypes := #[41, 41] }) (hs : a.eval sl = v) (hown : RowA w B v L) (hx : a.eval y = .slice (some ⟨X, 0, none⟩) 1 1) (hc : w.rangeAt X 0 (arC x)) (hl : L.length < 1000000) (hB : B ≤ w.heap.size)
    (h : ∀ v' w', RowA w' B v' (L ++ [x]) → w.grownBy w' v.ownBlock → (v'.ownBlock = v.ownBlock ∨ v'.ownBlock = some w.heap.size) → Kn (a.put o.dst v') w') :
    if Region.wanted o (yielded ops a.tmps) = true then Oper.wp Try.prog o a w Kn Q else E := by
  have hw : Region.wanted o (yielded ops a.tmps) = true := by simp [Region.wanted, hgd]
  rw [if_pos hw]
  obtain ⟨v', w', hr, h2, h3, h4⟩ := run_appA o.type hown hc hl hB
  unfold Oper.wp execOp
  simp only [ho, resolve, invoke, builtin, Sem.run_bind, Sem.run_pure, Result.andThen_ok, List.map_toArray, List.map_cons, List.map_nil, hs, hx, hr]
  exact h v' w' h2 h3 h4
theorem owns_shape {w : World} {B : Nat} {e : TypeId} {z : Nat} {v : Value} {n : Nat} {xs : List Value} (h : w.ownsRow B e z v n xs) : ∃ a l c, v = .slice a l c := by
  rcases h.2 with ⟨rfl, _⟩ | ⟨g, cap, cur, rfl, _⟩
  · exact ⟨_, _, _, rfl⟩
  · exact ⟨_, _, _, rfl⟩
set_option maxHeartbeats 1000000 in
set_option maxRecDepth 100000 in
theorem rd_no (Bv : Nat) (s : List Ar) (n : Nd) (a : Option Addr) (len cap : Nat) (d : Int) (w : World) (h5 : ¬ n.kind = 5) (h6 : ¬ n.kind = 6) (hS : Rd Bv s w) :
    Calls Try.prog 27 #[exV n (.slice a len cap), .int .i64 d, .pointer (some ⟨Bv, 0, none⟩)] w fun e w' => e = .returned (.bool (rdSt s n len d).1) ∧ Rd Bv (rdSt s n len d).2 w' ∧ ChF (RdF Bv) w w' := by
  have hst : rdSt s n len d = (true, s) := by unfold rdSt arOf; rw [if_neg h5, if_neg h6, List.append_nil]
  rw [hst]
  clear hst
  have e5 : (n.kind == 5) = false := by simp [h5]
  have e6 : (n.kind == 6) = false := by simp [h6]
  have a0 := (at14 n (.slice a len cap)).c0
  obtain ⟨S1, S2⟩ := hS.same (w' := w.alloc (exO n (.slice a len cap))) (fun k _ hlt => Below.heap_alloc w _ k hlt)
  replace S1 := hide S1
  replace S2 := hide S2
  clear hS h5 h6
  go_enter Try.func27, Try.ntmps27
  go_wp2_with fail
  go_ret
  exact ⟨rfl, S1.out, ⟨Chg.of_below ((Below.refl _ _).alloc (Nat.le_refl _) _), fun k _ e => S2.out k e⟩⟩
set_option maxHeartbeats 2000000 in
set_option maxRecDepth 100000 in
theorem rd_5 (Bv : Nat) (s : List Ar) (n : Nd) (a : Option Addr) (len cap : Nat) (d : Int) (w : World) (hk : n.kind = 5) (hl : s.length < 1000000) (hS : Rd Bv s w) :
    Calls Try.prog 27 #[exV n (.slice a len cap), .int .i64 d, .pointer (some ⟨Bv, 0, none⟩)] w fun e w' => e = .returned (.bool (rdSt s n len d).1) ∧ Rd Bv (rdSt s n len d).2 w' ∧ ChF (RdF Bv) w w' := by
  obtain ⟨v, h1, h2⟩ := hS
  have hst : rdSt s n len d = (true, s ++ [ofA n.ref.row n.ref.col n.ref.row n.ref.col]) := by unfold rdSt arOf; rw [if_pos hk]
  rw [hst]
  clear hst
  have e5 : (n.kind == 5) = true := by simp [hk]
  
  obtain ⟨nk, no, nn, nt, ⟨r0, r1, r2, r3⟩, ⟨t0, t1, t2, t3⟩, nf⟩ := n
  obtain ⟨a0, a1, a2, a3, a4, a5, a6, a7, a8, a9, a10, a11, a12, a13⟩ := at14 ⟨nk, no, nn, nt, ⟨r0, r1, r2, r3⟩, ⟨t0, t1, t2, t3⟩, nf⟩ (.slice a len cap)
  simp only at a0 a1 a2 a3 a4 a5 a6 a7 a8 a9 a10 a11 a12 a13 e5 ⊢
  have P0 := Blk.new w (exC ⟨nk, no, nn, nt, ⟨r0, r1, r2, r3⟩, ⟨t0, t1, t2, t3⟩, nf⟩ (.slice a len cap)) 29
  have V0 := h1.alloc (exO ⟨nk, no, nn, nt, ⟨r0, r1, r2, r3⟩, ⟨t0, t1, t2, t3⟩, nf⟩ (.slice a len cap))
  obtain ⟨p0, p1, p2, p3, p4, p5, p6, p7, p8, p9, p10, p11, p12, p13⟩ := P0.c14
  have BW := hide (((Below.refl w.heap.size w).alloc (Nat.le_refl _) (exO ⟨nk, no, nn, nt, ⟨r0, r1, r2, r3⟩, ⟨t0, t1, t2, t3⟩, nf⟩ (.slice a len cap))).drew)
  have cV := h1.one
  have lV := h1.lt
  have HP := hide (placeOf_any r0 r1 r2 r3)
  have HQ := hide (placeOf_any r0 r1 r2 r3)
  have HO := hide (of_any r0 r1 r0 r1)
  replace P0 := hide (show Blk (w.alloc (exO ⟨nk, no, nn, nt, ⟨r0, r1, r2, r3⟩, ⟨t0, t1, t2, t3⟩, nf⟩ (.slice a len cap))).drew w.heap.size _ _ from P0)
  replace h1 := hide h1
  replace h2 := hide h2
  replace hl := hide hl
  clear V0 hk p0 p1 p2 p3 p4 p5 p6 p7 p8 p9 p10 p11 p12 p13
  generalize ofA r0 r1 r0 r1 = x at *
  go_enter Try.func27, Try.ntmps27
  go_wp2_with fail
  go_region_law (first
    | (have hq := hB3; refine step_appA (v := v) (L := s) (x := x) (B := Bv + 1) (by rfl) _ _ (by rfl) (by rfl) (RA.out _) (by rfl) (CA.out) hl.out (by have := hB3.out.size; simp; omega) ?_; intro v' w5 r1 r2 r3; obtain ⟨fin1, fin2⟩ := rd_put HB3.out h1.out h2.out r1 r2 r3; have b2 : Blk w5 Bv #[v] 41 := (r2.block Bv (by have := HB3.out.size; omega) (fun e => by have := (owns_lt h2.out _ e.symm).1; omega)).trans (h1.out.keep HB3.out); have c2 := b2.one; have f2 := b2.fr 0; obtain ⟨aa, ll, cc, rfl⟩ := owns_shape r1; replace fin1 := hide fin1; replace fin2 := hide fin2; clear r1 r2 r3 b2)
    | (have hq := hB2; refine step_call (by rfl) 28 _ _ (by rfl) (enters Try.func28 (by kernel_rfl) (by kernel_rfl)) _ (by simp [Act.eval]; done) (HO.out _) ?_; intro w4 hb; have hB3 := hide (next hB2.out hb); have y4 := (h1.out.keep hB3.out).one; have y4l := (h1.out.keep hB3.out).lt; have RA := hide (fun o => owns_keep (w' := w4.alloc o) h2.out (fun k hk => by have := (owns_lt h2.out k hk).2; rw [Below.heap_alloc _ _ k (Nat.lt_of_lt_of_le this hB3.out.size)]; exact hB3.out.block k this)); have CA := hide (range_arC w4 x); have HB3 := hide (step hB3.out (.cells #[.int .i64 x.1, .int .i64 x.2.1, .int .i64 x.2.2.1, .int .i64 x.2.2.2] 47)); clear hb)
    | (have hq := hB1; refine step_call (by rfl) 29 _ _ (by rfl) (enters Try.func29 (by kernel_rfl) (by kernel_rfl)) _ (by simp [Act.eval]; done) (HQ.out _) ?_; intro w3 hb; have hB2 := hide (next hB1.out hb); have y3 := (h1.out.keep hB2.out).one; have y3l := (h1.out.keep hB2.out).lt; clear hb)
    | (refine step_call (by rfl) 29 _ _ (by rfl) (enters Try.func29 (by kernel_rfl) (by kernel_rfl)) _ (by simp [Act.eval]; done) (HP.out _) ?_; intro w2 hb; have hB1 := hide (next BW.out hb); have y2 := (h1.out.keep hB1.out).one; have y2l := (h1.out.keep hB1.out).lt; obtain ⟨z0, z1, z2, z3, z4, z5, z6, z7, z8, z9, z10, z11, z12, z13⟩ := (P0.out.keep hb).c14; have zl := (P0.out.keep hb).lt; clear hb))
  all_goals (go_wp2_with fail; go_ret; exact ⟨rfl, fin1.out, fin2.out⟩)
set_option maxHeartbeats 2000000 in
set_option maxRecDepth 100000 in
theorem rd_6 (Bv : Nat) (s : List Ar) (n : Nd) (a : Option Addr) (len cap : Nat) (d : Int) (w : World) (hk : n.kind = 6) (hl : s.length < 1000000) (hS : Rd Bv s w) :
    Calls Try.prog 27 #[exV n (.slice a len cap), .int .i64 d, .pointer (some ⟨Bv, 0, none⟩)] w fun e w' => e = .returned (.bool (rdSt s n len d).1) ∧ Rd Bv (rdSt s n len d).2 w' ∧ ChF (RdF Bv) w w' := by
  obtain ⟨v, h1, h2⟩ := hS
  have hst : rdSt s n len d = (true, s ++ [ofA n.ref.row n.ref.col n.to.row n.to.col]) := by unfold rdSt arOf; rw [if_neg (by omega), if_pos hk]
  rw [hst]
  clear hst
  have e5 : (n.kind == 5) = false := by simp [hk]
  have e6 : (n.kind == 6) = true := by simp [hk]
  obtain ⟨nk, no, nn, nt, ⟨r0, r1, r2, r3⟩, ⟨t0, t1, t2, t3⟩, nf⟩ := n
  obtain ⟨a0, a1, a2, a3, a4, a5, a6, a7, a8, a9, a10, a11, a12, a13⟩ := at14 ⟨nk, no, nn, nt, ⟨r0, r1, r2, r3⟩, ⟨t0, t1, t2, t3⟩, nf⟩ (.slice a len cap)
  simp only at a0 a1 a2 a3 a4 a5 a6 a7 a8 a9 a10 a11 a12 a13 e5 e6 ⊢
  have P0 := Blk.new w (exC ⟨nk, no, nn, nt, ⟨r0, r1, r2, r3⟩, ⟨t0, t1, t2, t3⟩, nf⟩ (.slice a len cap)) 29
  have V0 := h1.alloc (exO ⟨nk, no, nn, nt, ⟨r0, r1, r2, r3⟩, ⟨t0, t1, t2, t3⟩, nf⟩ (.slice a len cap))
  obtain ⟨p0, p1, p2, p3, p4, p5, p6, p7, p8, p9, p10, p11, p12, p13⟩ := P0.c14
  have BW := hide (((Below.refl w.heap.size w).alloc (Nat.le_refl _) (exO ⟨nk, no, nn, nt, ⟨r0, r1, r2, r3⟩, ⟨t0, t1, t2, t3⟩, nf⟩ (.slice a len cap))).drew)
  have cV := h1.one
  have lV := h1.lt
  have HP := hide (placeOf_any r0 r1 r2 r3)
  have HQ := hide (placeOf_any t0 t1 t2 t3)
  have HO := hide (of_any r0 r1 t0 t1)
  replace P0 := hide (show Blk (w.alloc (exO ⟨nk, no, nn, nt, ⟨r0, r1, r2, r3⟩, ⟨t0, t1, t2, t3⟩, nf⟩ (.slice a len cap))).drew w.heap.size _ _ from P0)
  replace h1 := hide h1
  replace h2 := hide h2
  replace hl := hide hl
  clear V0 hk p0 p1 p2 p3 p4 p5 p6 p7 p8 p9 p10 p11 p12 p13
  generalize ofA r0 r1 t0 t1 = x at *
  go_enter Try.func27, Try.ntmps27
  go_wp2_with fail
  go_region_law (first
    | (have hq := hB3; refine step_appA (v := v) (L := s) (x := x) (B := Bv + 1) (by rfl) _ _ (by rfl) (by rfl) (RA.out _) (by rfl) (CA.out) hl.out (by have := hB3.out.size; simp; omega) ?_; intro v' w5 r1 r2 r3; obtain ⟨fin1, fin2⟩ := rd_put HB3.out h1.out h2.out r1 r2 r3; have b2 : Blk w5 Bv #[v] 41 := (r2.block Bv (by have := HB3.out.size; omega) (fun e => by have := (owns_lt h2.out _ e.symm).1; omega)).trans (h1.out.keep HB3.out); have c2 := b2.one; have f2 := b2.fr 0; obtain ⟨aa, ll, cc, rfl⟩ := owns_shape r1; replace fin1 := hide fin1; replace fin2 := hide fin2; clear r1 r2 r3 b2)
    | (have hq := hB2; refine step_call (by rfl) 28 _ _ (by rfl) (enters Try.func28 (by kernel_rfl) (by kernel_rfl)) _ (by simp [Act.eval]; done) (HO.out _) ?_; intro w4 hb; have hB3 := hide (next hB2.out hb); have y4 := (h1.out.keep hB3.out).one; have y4l := (h1.out.keep hB3.out).lt; have RA := hide (fun o => owns_keep (w' := w4.alloc o) h2.out (fun k hk => by have := (owns_lt h2.out k hk).2; rw [Below.heap_alloc _ _ k (Nat.lt_of_lt_of_le this hB3.out.size)]; exact hB3.out.block k this)); have CA := hide (range_arC w4 x); have HB3 := hide (step hB3.out (.cells #[.int .i64 x.1, .int .i64 x.2.1, .int .i64 x.2.2.1, .int .i64 x.2.2.2] 47)); clear hb)
    | (have hq := hB1; refine step_call (by rfl) 29 _ _ (by rfl) (enters Try.func29 (by kernel_rfl) (by kernel_rfl)) _ (by simp [Act.eval]; done) (HQ.out _) ?_; intro w3 hb; have hB2 := hide (next hB1.out hb); have y3 := (h1.out.keep hB2.out).one; have y3l := (h1.out.keep hB2.out).lt; clear hb)
    | (refine step_call (by rfl) 29 _ _ (by rfl) (enters Try.func29 (by kernel_rfl) (by kernel_rfl)) _ (by simp [Act.eval]; done) (HP.out _) ?_; intro w2 hb; have hB1 := hide (next BW.out hb); have y2 := (h1.out.keep hB1.out).one; have y2l := (h1.out.keep hB1.out).lt; obtain ⟨z0, z1, z2, z3, z4, z5, z6, z7, z8, z9, z10, z11, z12, z13⟩ := (P0.out.keep hb).c14; have zl := (P0.out.keep hb).lt; clear hb))
  all_goals (go_wp2_with fail; go_ret; exact ⟨rfl, fin1.out, fin2.out⟩)
end Go.Proofs.Ytgopolelpckjcaa
