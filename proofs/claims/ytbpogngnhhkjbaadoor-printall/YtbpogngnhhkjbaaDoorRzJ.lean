/- quadrilleref11.text of signs: the statement draws its order. quadrilleref11.text of the other sign. -/
import Derived.Test.YtbpogngnhhkjbaaDoorRtJ
import Derived.Test.YtbpogngnhhkjbaaDoorMyJ
import Derived.Deep.RegionLaw
namespace Go.Proofs.YtbpogngnhhkjbaaDoor.T9
open Go.RowKit Go.Sort
set_option linter.unusedVariables false

theorem tXuz : (30 : TypeId) ≠ 5 := by decide
section
variable {ops : Array Oper} {o : Oper} {a : Act} {w : World} {Kn : Act → World → Prop} {Q : Exit → Act → World → Prop} {E : Prop} {B X : Nat} {v : Value} {L : List UInt8}
theorem step_appK (c : UInt8) (k : Int) (hk : (c.toNat : Int) = k) (hgd : o.guard = none) (sl x : Operand) (ho : o.op = Op.call { callee := Callee.builtin Builtin.append, args := #[sl, x], argTypes := #[37, 37] })
    (hs : a.eval sl = v) (hx : a.eval x = .slice (some ⟨X, 0, none⟩) 1 1) (hown : OwB w B v L) (hc : w.cell? ⟨X, 0, none⟩ = some (.int .u8 k)) (hl : L.length < 1000000) (hB : B ≤ w.heap.size)
    (h : ∀ v' w', OwB w' B v' (L ++ [c]) → Gone B w w' v v' → Kn (a.put o.dst v') w') : if Region.wanted o (yielded ops a.tmps) = true then Oper.wp Tryd.prog o a w Kn Q else E := by
  have hw : Region.wanted o (yielded ops a.tmps) = true := by simp [Region.wanted, hgd]
  rw [if_pos hw]
  obtain ⟨i0, hi, hz0, hz1, hz2⟩ := info_parts info_by
  have ha : (⟨X, 0, none⟩ : Addr).add 0 = ⟨X, 0, none⟩ := by unfold Addr.add; split <;> simp_all
  obtain ⟨v', w', hr, h2, h3, _⟩ := run_append_own (P := Tryd.prog) w B 37 o.type 5 i0 (.int .u8 0) 1 1 Tryd.underlying37 hi hz0 hz1 hz2 rfl (by decide) v _ _ hown.2 ⟨X, 0, none⟩ 1 1 [.int .u8 k] rfl (fun j u' hj => by match j, hj with | 0, hj => simp at hj; subst hj; rw [ha]; exact hc) (fun u' hu' => by simp at hu'; subst hu'; rfl) (by unfold maxLen; omega) (by omega) hB
  unfold Oper.wp execOp
  simp only [ho, resolve, invoke, builtin, Sem.run_bind, Sem.run_pure, Result.andThen_ok, List.map_toArray, List.map_cons, List.map_nil, hs, hx, hr]
  have h4 : OwB w' B v' (L ++ [c]) := ⟨by simp, by
    rw [Lib.byteCells_append, List.length_append]
    have e : Lib.byteCells [c] = [Value.int .u8 k] := by rw [← hk]; rfl
    rw [e]
    exact h2⟩
  exact h v' w' h4 (Gone.grown hown h3 hB h4 (by have := hown.1; simp; omega))
theorem step_callT (hgd : o.guard = none) (f : Nat) (xs : Array Operand) (ts : Array TypeId) (ho : o.op = .call { callee := .value (.func f), args := xs, argTypes := ts }) (hent : ∀ args w, (callFunc f args).run Tryd.prog w = .ok (.enter f args) w) (args : Array Value) (hargs : xs.map a.eval = args) {R : Value → World → Prop}
    (hC : Calls Tryd.prog f args w fun e w' => ∃ v, e = .returned v ∧ R v w') (h : ∀ v w', R v w' → Kn (a.put o.dst v) w') : if Region.wanted o (yielded ops a.tmps) = true then Oper.wp Tryd.prog o a w Kn Q else E := by
  have hw : Region.wanted o (yielded ops a.tmps) = true := by simp [Region.wanted, hgd]
  rw [if_pos hw]
  have he : a.eval (.func f) = .func (.func f) #[] #[] := rfl
  unfold Oper.wp execOp
  simp [ho, resolve, invoke, hargs, he, Deferred.ofValue, hent]
  refine hC.mono ?_
  rintro e w' ⟨v, rfl, hR⟩
  exact h v w' hR
end
set_option maxHeartbeats 8000000 in
set_option maxRecDepth 100000 in
theorem rtx_71 (w0 : World) (nd : Nd) (k : Ex) (hk : nd.kind = 7) (ho : nd.op = 1) (hI : FrIs w0 k) : TxIs w0 (.mk nd [k]) := by
  intro v b acc w ht hlow hown hlen
  obtain ⟨a, len, cap, rfl, hl1, _, _, _⟩ := ht.un
  obtain rfl : len = 1 := hl1.out
  have hv : lv nd = 6 := by unfold lv; rw [if_neg (by omega), if_pos hk, if_neg (by omega)]
  have e : txE (.mk nd [k]) = [45] ++ frE 6 k := by rw [txE_mk]; unfold nodeT; rw [if_pos hk, hv, ho]; show aheadL 1 ++ frE 6 k ++ behindL 1 = _; rw [show behindL 1 = [] from rfl, List.append_nil]; rfl
  rw [e] at hlen ⊢
  simp only [List.length_append, List.length_cons, List.length_nil] at hlen
  obtain ⟨g, o, rfl, _, aa, kl, kc, tk, rk⟩ := ht.kidsAt.get (i := 0) (by omega)
  have tk : Tree w0 (exV k.nd (.slice aa kl kc)) k := tk
  have rk : w0.rangeAt g (o + 0 * 14) (exC k.nd (.slice aa kl kc)).toList := rk
  rw [Nat.zero_mul, Nat.add_zero] at rk
  have hg : Hid (g < w0.heap.size) := hide (World.block_lt_of_cell? w0 ⟨g, _, none⟩ (rk 0 _ rfl))
  have P0 := hide (Blk.new w (exC nd (.slice (some ⟨g, o, none⟩) 1 cap)) 30)
  have W0 := hide (Gone.of_below (B := w0.heap.size) (v := b) (step (Below.refl w.heap.size w) (exO nd (.slice (some ⟨g, o, none⟩) 1 cap))) hlow.size)
  have O0 := hide (hown.alloc (exO nd (.slice (some ⟨g, o, none⟩) 1 cap)))
  have hB := hide hlow.size
  have HI := hide (fun b' acc' w' (h1 : Below w0.heap.size w0 w') (h2 : OwB w' w0.heap.size b' acc') (hz : acc'.length + (frE 6 k).length < 1000000) => (show Calls Tryd.prog 23 #[b', lit14 k.nd (.slice aa kl kc), .int .i64 6] w' fun e w'' => TxP w0 w' b' (acc' ++ frE 6 k) e w'' from hI (exV k.nd (.slice aa kl kc)) b' 6 acc' w' tk h1 h2 hz))
  have c0 := (at14 nd (.slice (some ⟨g, o, none⟩) 1 cap)).c0
  have c1 := (at14 nd (.slice (some ⟨g, o, none⟩) 1 cap)).c1
  have c13 := (at14 nd (.slice (some ⟨g, o, none⟩) 1 cap)).c13
  rw [hk] at c0
  rw [ho] at c1
  have RF := hide (fun w' (h : Below w0.heap.size w0 w') => range14 (range_of_block rk (h.block g hg.out)))
  have hgl := hide (fun w' (h : Below w0.heap.size w0 w') => Nat.lt_of_lt_of_le hg.out h.size)
  replace hlen := hide hlen
  replace hlow := hide hlow
  generalize frE 6 k = U at *
  clear ht hown e hI tk hl1 rk hv
  go_enter Tryd.func12, Tryd.ntmps12
  go_wp2_with fail
  have d13 := (P0.out.at' 13).trans c13
  have dl := P0.out.lt
  obtain ⟨x0, x1, x2, x3, x4, x5, x6, x7, x8, x9, x10, x11, x12, x13⟩ := RF.out _ (hlow.out.trans W0.out.low)
  have xl := hgl.out _ (hlow.out.trans W0.out.low)
  clear c0 c1
  generalize hw1 : w.alloc (.cells (exC nd (.slice (some ⟨g, o, none⟩) 1 cap)) 30) = w1 at *
  clear hw1
  have O0d := hide (show OwB w1.drew w0.heap.size b acc from O0.out)
  have W0d := hide (show Gone w0.heap.size w w1.drew b b from ⟨W0.out.low.drew, W0.out.oth, W0.out.one⟩)
  have P0d := hide (show Blk w1.drew w.heap.size (exC nd (.slice (some ⟨g, o, none⟩) 1 cap)) 30 from P0.out)
  go_region_law (first
    | (refine step_callT (by rfl) 23 _ _ (by rfl) (enters Tryd.func23 (by kernel_rfl) (by kernel_rfl)) #[b2, lit14 k.nd (.slice aa kl kc), .int .i64 6] (by first | rfl | (simp [Act.eval]; done)) (HI.out _ _ _ (hlow.out.trans W2.out.low) O2.out (by rw [List.length_append]; have := hlen.out; simp; omega)) ?_; rintro b3 w3 ⟨h1, h2⟩; have O3 := hide h1; have W3 := hide (W2.out.trans h2); clear h1 h2)
    | (refine step_appK 45 45 rfl (by rfl) _ _ (by rfl) (by rfl) (X := w1.heap.size) (by first | rfl | (simp [Act.eval]; done)) (O0d.out.alloc _) (OwB.lit 45) (by have := hlen.out; omega) (Nat.le_trans hB.out (W0d.out.alloc hB.out _).low.size) ?_; intro b2 w2 h1 h2; have O2 := hide h1; have W2 := hide ((W0d.out.alloc hB.out _).trans h2); have P2 := hide (h2.blk (P0d.out.alloc _) tXuz); have e13 := (P2.out.at' 13).trans c13; have el := P2.out.lt; obtain ⟨y0, y1, y2, y3, y4, y5, y6, y7, y8, y9, y10, y11, y12, y13⟩ := RF.out _ (hlow.out.trans W2.out.low); have yl := hgl.out _ (hlow.out.trans W2.out.low); clear h1 h2))
  all_goals try go_wp2_with fail
  all_goals (go_ret; exact ⟨b3, rfl, by have := O3.out; simpa using this, W3.out⟩)
end Go.Proofs.YtbpogngnhhkjbaaDoor.T9
namespace Go.Proofs.YtbpogngnhhkjbaaDoor.T9
open Go.RowKit Go.Sort
set_option linter.unusedVariables false

set_option maxHeartbeats 8000000 in
set_option maxRecDepth 100000 in
theorem rtx_72 (w0 : World) (nd : Nd) (k : Ex) (hk : nd.kind = 7) (ho : nd.op = 2) (hI : FrIs w0 k) : TxIs w0 (.mk nd [k]) := by
  intro v b acc w ht hlow hown hlen
  obtain ⟨a, len, cap, rfl, hl1, _, _, _⟩ := ht.un
  obtain rfl : len = 1 := hl1.out
  have hv : lv nd = 6 := by unfold lv; rw [if_neg (by omega), if_pos hk, if_neg (by omega)]
  have e : txE (.mk nd [k]) = [43] ++ frE 6 k := by rw [txE_mk]; unfold nodeT; rw [if_pos hk, hv, ho]; show aheadL 2 ++ frE 6 k ++ behindL 2 = _; rw [show behindL 2 = [] from rfl, List.append_nil]; rfl
  rw [e] at hlen ⊢
  simp only [List.length_append, List.length_cons, List.length_nil] at hlen
  obtain ⟨g, o, rfl, _, aa, kl, kc, tk, rk⟩ := ht.kidsAt.get (i := 0) (by omega)
  have tk : Tree w0 (exV k.nd (.slice aa kl kc)) k := tk
  have rk : w0.rangeAt g (o + 0 * 14) (exC k.nd (.slice aa kl kc)).toList := rk
  rw [Nat.zero_mul, Nat.add_zero] at rk
  have hg : Hid (g < w0.heap.size) := hide (World.block_lt_of_cell? w0 ⟨g, _, none⟩ (rk 0 _ rfl))
  have P0 := hide (Blk.new w (exC nd (.slice (some ⟨g, o, none⟩) 1 cap)) 30)
  have W0 := hide (Gone.of_below (B := w0.heap.size) (v := b) (step (Below.refl w.heap.size w) (exO nd (.slice (some ⟨g, o, none⟩) 1 cap))) hlow.size)
  have O0 := hide (hown.alloc (exO nd (.slice (some ⟨g, o, none⟩) 1 cap)))
  have hB := hide hlow.size
  have HI := hide (fun b' acc' w' (h1 : Below w0.heap.size w0 w') (h2 : OwB w' w0.heap.size b' acc') (hz : acc'.length + (frE 6 k).length < 1000000) => (show Calls Tryd.prog 23 #[b', lit14 k.nd (.slice aa kl kc), .int .i64 6] w' fun e w'' => TxP w0 w' b' (acc' ++ frE 6 k) e w'' from hI (exV k.nd (.slice aa kl kc)) b' 6 acc' w' tk h1 h2 hz))
  have c0 := (at14 nd (.slice (some ⟨g, o, none⟩) 1 cap)).c0
  have c1 := (at14 nd (.slice (some ⟨g, o, none⟩) 1 cap)).c1
  have c13 := (at14 nd (.slice (some ⟨g, o, none⟩) 1 cap)).c13
  rw [hk] at c0
  rw [ho] at c1
  have RF := hide (fun w' (h : Below w0.heap.size w0 w') => range14 (range_of_block rk (h.block g hg.out)))
  have hgl := hide (fun w' (h : Below w0.heap.size w0 w') => Nat.lt_of_lt_of_le hg.out h.size)
  replace hlen := hide hlen
  replace hlow := hide hlow
  generalize frE 6 k = U at *
  clear ht hown e hI tk hl1 rk hv
  go_enter Tryd.func12, Tryd.ntmps12
  go_wp2_with fail
  have d13 := (P0.out.at' 13).trans c13
  have dl := P0.out.lt
  obtain ⟨x0, x1, x2, x3, x4, x5, x6, x7, x8, x9, x10, x11, x12, x13⟩ := RF.out _ (hlow.out.trans W0.out.low)
  have xl := hgl.out _ (hlow.out.trans W0.out.low)
  clear c0 c1
  generalize hw1 : w.alloc (.cells (exC nd (.slice (some ⟨g, o, none⟩) 1 cap)) 30) = w1 at *
  clear hw1
  have O0d := hide (show OwB w1.drew w0.heap.size b acc from O0.out)
  have W0d := hide (show Gone w0.heap.size w w1.drew b b from ⟨W0.out.low.drew, W0.out.oth, W0.out.one⟩)
  have P0d := hide (show Blk w1.drew w.heap.size (exC nd (.slice (some ⟨g, o, none⟩) 1 cap)) 30 from P0.out)
  go_region_law (first
    | (refine step_callT (by rfl) 23 _ _ (by rfl) (enters Tryd.func23 (by kernel_rfl) (by kernel_rfl)) #[b2, lit14 k.nd (.slice aa kl kc), .int .i64 6] (by first | rfl | (simp [Act.eval]; done)) (HI.out _ _ _ (hlow.out.trans W2.out.low) O2.out (by rw [List.length_append]; have := hlen.out; simp; omega)) ?_; rintro b3 w3 ⟨h1, h2⟩; have O3 := hide h1; have W3 := hide (W2.out.trans h2); clear h1 h2)
    | (refine step_appK 43 43 rfl (by rfl) _ _ (by rfl) (by rfl) (X := w1.heap.size) (by first | rfl | (simp [Act.eval]; done)) (O0d.out.alloc _) (OwB.lit 43) (by have := hlen.out; omega) (Nat.le_trans hB.out (W0d.out.alloc hB.out _).low.size) ?_; intro b2 w2 h1 h2; have O2 := hide h1; have W2 := hide ((W0d.out.alloc hB.out _).trans h2); have P2 := hide (h2.blk (P0d.out.alloc _) tXuz); have e13 := (P2.out.at' 13).trans c13; have el := P2.out.lt; obtain ⟨y0, y1, y2, y3, y4, y5, y6, y7, y8, y9, y10, y11, y12, y13⟩ := RF.out _ (hlow.out.trans W2.out.low); have yl := hgl.out _ (hlow.out.trans W2.out.low); clear h1 h2))
  all_goals try go_wp2_with fail
  all_goals (go_ret; exact ⟨b3, rfl, by have := O3.out; simpa using this, W3.out⟩)
end Go.Proofs.YtbpogngnhhkjbaaDoor.T9
