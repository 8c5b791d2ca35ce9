/- The law's run: a fold is begun and given values until it ends. Proved of the Go text. -/
import Derived.Test.YtnpdkojhlgchlaaGreatDoorRunM15
namespace Go.Proofs.YtnpdkojhlgchlaaGreatDoor
open Go.RowKit Go.Sort
open T9 (Blk Chg)
set_option linter.unusedVariables false

def VaAt (w : World) (b o : Nat) (x : Va) : Prop := w.cell? ⟨b, o, none⟩ = some (.int .i64 x.k) ∧ w.cell? ⟨b, o + 1, none⟩ = some (.int .i64 x.i) ∧ w.cell? ⟨b, o + 2, none⟩ = some (.string x.t)
theorem VaAt.keep {w w' : World} {b o : Nat} {x : Va} (h : VaAt w b o x) (hb : Below w.heap.size w w') : VaAt w' b o x := ⟨keep1 hb h.1, keep1 hb h.2.1, keep1 hb h.2.2⟩
/-- A list of values: empty, or with its cells. -/
def ValsAt (w : World) (a : Option Addr) (xs : List Va) : Prop := xs = [] ∨ ∃ b o, a = some ⟨b, o, none⟩ ∧ ∀ (j : Nat) (x : Va), xs[j]? = some x → VaAt w b (o + j * 3) x
theorem ValsAt.keep {w w' : World} {a : Option Addr} {xs : List Va} (h : ValsAt w a xs) (hb : Below w.heap.size w w') : ValsAt w' a xs := by
  rcases h with h | ⟨b, o, h, g⟩
  · exact .inl h
  · exact .inr ⟨b, o, h, fun j x hx => (g j x hx).keep hb⟩
/-- The fold while it is run. -/
def Rn {σ : Type} (stG stC : σ → Va → Stp × σ) (last : σ → Va) (w wr : World) (B : Nat) (S : σ → (Nat → Prop) → World → Prop) (F : Fns) (st : Fs σ) (v : Value) (acc : List (Int × Int)) : Prop :=
  ∃ M, FoldAt S F wr B M st ∧ (∀ k, M k → w.heap.size + 1 ≤ k) ∧ RowP wr (w.heap.size + 1) v acc ∧ (∀ k, v.ownBlock = some k → ¬ M k) ∧ Below (w.heap.size + 1) (w.alloc (vO 0 0 no)) wr
theorem Rn.keep {σ : Type} {stG stC : σ → Va → Stp × σ} {last : σ → Va} {w wr wr' : World} {B : Nat} {S : σ → (Nat → Prop) → World → Prop} (hS : Stay S) {F : Fns} {st : Fs σ} {v : Value} {acc : List (Int × Int)} (h : Rn stG stC last w wr B S F st v acc) (hb : Below wr.heap.size wr wr') : Rn stG stC last w wr' B S F st v acc := by
  obtain ⟨M, h1, h2, h3, h4, h5⟩ := h
  exact ⟨M, h1.keep hS hb, h2, h3.keep hb, h4, h5.trans (hb.mono (by have := h5.size; simpa using this))⟩
theorem rn_step {σ : Type} (stG stC : σ → Va → Stp × σ) (last : σ → Va) (vs : List Va) (f n : Nat) (rest : List Ag) (k : Nat) (r c : Int) (bs : Bool) (s : σ) (acc : List (Int × Int)) : ((rnS stG stC last vs (f + 1) n (.wait rest k r c bs s)).map fun p => (p.1, acc ++ p.2)) = (rnS stG stC last vs f (n + 1) (giv stG last rest k (stC s ((vs[n]?).getD ⟨1, 0, no⟩)))).map fun p => (p.1, (acc ++ [(r, c)]) ++ p.2) := by
  rw [rnS]
  cases rnS stG stC last vs f (n + 1) (giv stG last rest k (stC s ((vs[n]?).getD ⟨1, 0, no⟩))) <;> simp
theorem Rn.below {σ : Type} {stG stC : σ → Va → Stp × σ} {last : σ → Va} {w wr : World} {B : Nat} {S : σ → (Nat → Prop) → World → Prop} {F : Fns} {st : Fs σ} {v : Value} {acc : List (Int × Int)} (h : Rn stG stC last w wr B S F st v acc) : Below w.heap.size w wr := by
  obtain ⟨M, h1, h2, h3, h4, h5⟩ := h
  have b1 : Below w.heap.size w (w.alloc (vO 0 0 no)) := step (Below.refl _ _) _
  exact ⟨h5.os.trans b1.os, h5.tape.trans b1.tape, h5.output.trans b1.output, Nat.le_trans b1.size h5.size, fun k hk => (h5.block k (by omega)).trans (b1.block k hk)⟩
theorem Rn.box {σ : Type} {stG stC : σ → Va → Stp × σ} {last : σ → Va} {w wr : World} {B : Nat} {S : σ → (Nat → Prop) → World → Prop} {F : Fns} {st : Fs σ} {v : Value} {acc : List (Int × Int)} (h : Rn stG stC last w wr B S F st v acc) : Blk wr w.heap.size #[.int .i64 0, .int .i64 0, .string no] 31 := by
  obtain ⟨M, h1, h2, h3, h4, h5⟩ := h
  exact (h5.block w.heap.size (Nat.lt_succ_self _)).trans (Blk.new w _ _)
theorem Rn.app {σ : Type} {stG stC : σ → Va → Stp × σ} {last : σ → Va} {w wr w' : World} {B : Nat} {S : σ → (Nat → Prop) → World → Prop} (hS : Stay S) {F : Fns} {st : Fs σ} {v v' : Value} {acc acc' : List (Int × Int)} (h : Rn stG stC last w wr B S F st v acc) (h1 : RowP w' (w.heap.size + 1) v' acc') (h2 : wr.grownBy w' v.ownBlock) (h3 : v'.ownBlock = v.ownBlock ∨ v'.ownBlock = some wr.heap.size) : Rn stG stC last w w' B S F st v' acc' := by
  obtain ⟨M, g1, g2, g3, g4, g5⟩ := h
  have hn : ∀ k, M k → some k ≠ v.ownBlock := fun k hk e => g4 k e.symm hk
  have hz : w.heap.size + 1 ≤ wr.heap.size := by have := g5.size; simpa using this
  refine ⟨M, g1.same hS (fun k hk => h2.block k (g1.lt k hk) (hn k hk)) h2.size, g2, h1, fun k hk hM => ?_, ?_⟩
  · rcases h3 with h3 | h3
    · exact g4 k (h3 ▸ hk) hM
    · rw [h3] at hk
      have := g1.lt k hM
      cases hk
      omega
  · exact ⟨h2.os.trans g5.os, h2.tape.trans g5.tape, h2.output.trans g5.output, Nat.le_trans g5.size h2.size, fun k hk => (h2.block k (by omega) (fun e => by have := (owns_lt g3 k e.symm).1; omega)).trans (g5.block k hk)⟩
theorem Rn.give {σ : Type} {stG stC : σ → Va → Stp × σ} {last : σ → Va} {w wr w' : World} {B : Nat} {S : σ → (Nat → Prop) → World → Prop} {F : Fns} {st st' : Fs σ} {v : Value} {acc : List (Int × Int)} {M : Nat → Prop} (g1 : FoldAt S F wr B M st) (g2 : ∀ k, M k → w.heap.size + 1 ≤ k) (g3 : RowP wr (w.heap.size + 1) v acc) (g4 : ∀ k, v.ownBlock = some k → ¬ M k) (g5 : Below (w.heap.size + 1) (w.alloc (vO 0 0 no)) wr) (h : ∃ M', FoldAt S F w' B M' st' ∧ Grw M M' wr ∧ Chg M wr w') : Rn stG stC last w w' B S F st' v acc := by
  obtain ⟨M', k1, k2, k3⟩ := h
  have hz : w.heap.size + 1 ≤ wr.heap.size := by have := g5.size; simpa using this
  refine ⟨M', k1, fun k hk => ?_, g3.chg k3 g4, fun k hk hM => ?_, ?_⟩
  · rcases k2 k hk with h | h
    · exact g2 k h
    · omega
  · rcases k2 k hM with h | h
    · exact g4 k hk h
    · have := (owns_lt g3 k hk).2; omega
  · exact ⟨k3.os.trans g5.os, k3.tape.trans g5.tape, k3.output.trans g5.output, Nat.le_trans g5.size k3.size, fun k hk => (k3.block k (by omega) (fun e => by have := g2 k e; omega)).trans (g5.block k hk)⟩
theorem fold_blk {σ : Type} {S : σ → (Nat → Prop) → World → Prop} {F : Fns} {w : World} {B : Nat} {M : Nat → Prop} {rest : List Ag} {k : Nat} {r c : Int} {bs : Bool} {s : σ} (h : FoldAt S F w B M (.wait rest k r c bs s)) : ∃ th rst, Blk w B (fC th F.gi F.ce F.be F.se F.la rst k true r c bs 0 0 no) 79 := fld_blk h
set_option maxHeartbeats 8000000 in
set_option maxRecDepth 100000 in
theorem run_any {σ : Type} (fI : Int) (st0 : Fs σ) (hpl : st0.plain) (stG stC : σ → Va → Stp × σ) (last : σ → Va) (nbG : ∀ s x, (stG s x).1 ≠ .bes) (nbC : ∀ s x, (stC s x).1 ≠ .bes) (a : Option Addr) (len cap : Nat) (w : World)
    (HB : Calls Tryz.prog 10 #[.int .i64 fI, .slice a len cap] (w.alloc (vO 0 0 no)) fun e w' => ∃ B S F M, e = .returned (.tuple #[.pointer (some ⟨B, 0, none⟩), .int .i64 0]) ∧ Rul S F stG stC last ∧ FoldAt S F w' B M st0 ∧ (∀ k, M k → (w.alloc (vO 0 0 no)).heap.size ≤ k) ∧ Below (w.alloc (vO 0 0 no)).heap.size (w.alloc (vO 0 0 no)) w')
    (vs : List Va) (hvs : ∀ x ∈ vs, VaOk x) (hvl : vs.length ≤ 1000000) (av : Option Addr) (capv : Nat) (hv : ValsAt w av vs) (x : Va) (L : List (Int × Int)) (htot : rnS stG stC last vs 70000 0 st0 = some (x, L)) :
    Calls Tryz.prog 9 #[.int .i64 fI, .slice a len cap, .slice av vs.length capv] w fun e w' => ∃ v, e = .returned (.tuple #[x.v, v, .bool true]) ∧ RowP w' (w.heap.size + 1) v L ∧ Below w.heap.size w w' := by
  replace HB := hide HB
  replace hpl := hide hpl
  replace nbG := hide nbG
  replace nbC := hide nbC
  replace hvs := hide hvs
  replace hv := hide hv
  replace htot := hide htot
  obtain ⟨lv, hlv⟩ : ∃ lv, vs.length = lv := ⟨_, rfl⟩
  rw [hlv] at hvl ⊢
  replace hlv := hide hlv
  go_enter Tryz.func9, Tryz.ntmps9
  go_wp2_with fail
  refine HB.out.mono ?_
  rintro e w1 ⟨B, S, F, M, rfl, hR, hF, hM, hK⟩
  have hR0 : Hid (Rn stG stC last w w1 B S F st0 (.slice none 0 0) []) := hide ⟨M, hF, fun k hk => by simpa using hM k hk, RowP.nil _ _, (fun k hk => by cases hk), by simpa using hK⟩
  replace hR := hide hR
  clear hF hM hK HB
  go_wp2_with fail
  go_loopw [11, 12] (fun l i wr => ∃ (n : Nat) (st : Fs σ) (acc : List (Int × Int)), n ≤ 70000 ∧ i = .int .i64 (n : Int) ∧ Hid (Rn stG stC last w wr B S F st l acc) ∧ Hid st.plain ∧ Hid (rnS stG stC last vs 70000 0 st0 = (rnS stG stC last vs (70000 - n) n st).map fun p => (p.1, acc ++ p.2)) ∧ Hid (acc.length = n)) (fun _ i _ => 70000 - (intOf i).toNat)
  case atStart => exact ⟨0, st0, [], Nat.zero_le _, rfl, hR0, hpl, hide (by cases rnS stG stC last vs 70000 0 st0 <;> simp), hide rfl⟩
  case round =>
    obtain ⟨n, st, acc, hn, rfl, HR, hp, ht, ha⟩ := hrel
    obtain ⟨al, nl, cl, rfl, hnl⟩ : ∃ a n cap, u11 = .slice a n cap ∧ n = acc.length := by obtain ⟨M, _, _, h3, _⟩ := HR.out; exact h3.shapeN
    have hS := hide hR.out.stay
    have hn7 : n < 70000 := by
      rcases Nat.lt_or_ge n 70000 with h | h
      · exact h
      · have e := ht.out
        rw [htot.out, show 70000 - n = 0 by omega] at e
        cases e
    have p0 : (n : Int) < 70000 := by omega
    obtain ⟨f, hf⟩ : ∃ f, 70000 - n = f + 1 := ⟨69999 - n, by omega⟩
    replace ht : Hid (rnS stG stC last vs 70000 0 st0 = (rnS stG stC last vs (f + 1) n st).map fun p => (p.1, acc ++ p.2)) := hide (by rw [← hf]; exact ht.out)
    replace hf := hide hf
    replace hnl := hide hnl
    have hBx := hide HR.out.box
    cases st with
    | over y =>
      obtain ⟨y0, y1, y2⟩ := y
      have hxl : x = ⟨y0, y1, y2⟩ ∧ L = acc := by
        have e := ht.out
        rw [htot.out] at e
        simp [rnS] at e
        exact e
      obtain ⟨rfl, rfl⟩ := hxl
      have hov : Hid (Ovr wr B ⟨y0, y1, y2⟩) := hide (by obtain ⟨M, h1, _⟩ := HR.out; exact h1.1)
      have HN := hide (next_any hov.out)
      go_wp2_with fail
      refine HN.out.mono ?_
      rintro e w2 ⟨rfl, hb2⟩
      have R2 := hide (HR.out.keep hS.out (next (Below.refl _ _) hb2))
      have R3 := hide (R2.out.keep hS.out (step (Below.refl w2.heap.size w2) (.cells #[.int .i64 0, .int .i64 0] 47)))
      have hov3 : Hid (Ovr (w2.alloc (.cells #[.int .i64 0, .int .i64 0] 47)) B ⟨y0, y1, y2⟩) := hide (by obtain ⟨M, h1, _⟩ := R3.out; exact h1.1)
      have HE := hide (end_any hov3.out)
      clear hb2
      go_wp2_with fail
      refine HE.out.mono ?_
      rintro e w4 ⟨rfl, hb4⟩
      have R4 := hide (R3.out.keep hS.out hb4)
      have R5 := hide (R4.out.keep hS.out (step (Below.refl w4.heap.size w4) (vO y0 y1 y2)))
      have bx := hide R5.out.box
      have z0 : (w4.alloc (vO y0 y1 y2)).cell? ⟨w.heap.size, 0, none⟩ = some (.int .i64 0) := bx.out.at' 0
      have z1 : (w4.alloc (vO y0 y1 y2)).cell? ⟨w.heap.size, 1, none⟩ = some (.int .i64 0) := bx.out.at' 1
      have z2 : (w4.alloc (vO y0 y1 y2)).cell? ⟨w.heap.size, 2, none⟩ = some (.string no) := bx.out.at' 2
      have zf := bx.out.fr
      have h9 := ((bx.out.set 0 (.int .i64 y0)).set 1 (.int .i64 y1)).set 2 (.string y2)
      have c9 := hide (((((Chg.refl (· = w.heap.size) (w4.alloc (vO y0 y1 y2))).set w.heap.size 0 (.int .i64 y0) rfl).set w.heap.size 1 (.int .i64 y1) rfl).set w.heap.size 2 (.string y2) rfl))
      obtain ⟨w9, hw9⟩ : ∃ w9, put3 (w4.alloc (vO y0 y1 y2)) w.heap.size (.int .i64 y0) (.int .i64 y1) (.string y2) = w9 := ⟨_, rfl⟩
      unfold put3 at hw9
      rw [hw9] at h9 c9
      have q0 : w9.cell? ⟨w.heap.size, 0, none⟩ = some (.int .i64 y0) := h9.at' 0
      have q1 : w9.cell? ⟨w.heap.size, 1, none⟩ = some (.int .i64 y1) := h9.at' 1
      have q2 : w9.cell? ⟨w.heap.size, 2, none⟩ = some (.string y2) := h9.at' 2
      replace h9 := hide h9
      clear hb4
      go_wp2_with fail
      refine bodyPost_ret (by simp [results, Tryz.results9, go_sem, q0, q1, q2]; try rfl) rfl ?_
      refine ⟨_, rfl, ?_, ?_⟩
      · obtain ⟨M, _, _, h3, _, _⟩ := R5.out
        exact h3.chg c9.out (fun k hk e => by have := (owns_lt h3 k hk).1; omega)
      · have b5 := R5.out.below
        exact ⟨c9.out.os.trans b5.os, c9.out.tape.trans b5.tape, c9.out.output.trans b5.output, Nat.le_trans b5.size c9.out.size, fun k hk => (c9.out.block k (Nat.lt_of_lt_of_le hk b5.size) (by omega)).trans (b5.block k hk)⟩
    | wait rest k r c bs s =>
      obtain rfl : bs = false := hp.out
      obtain ⟨th, rst, hbk⟩ : ∃ th rst, Blk wr B (fC th F.gi F.ce F.be F.se F.la rst k true r c false 0 0 no) 79 := by obtain ⟨M, h1, _⟩ := HR.out; exact fold_blk h1
      have HN := hide (next_any hbk)
      clear hbk
      go_wp2_with fail
      refine HN.out.mono ?_
      rintro e w2 ⟨rfl, hb2⟩
      have R2 := hide (HR.out.keep hS.out hb2)
      have R3 := hide (R2.out.keep hS.out (step (step (Below.refl w2.heap.size w2) (.cells #[.int .i64 r, .int .i64 c] 47)) (.cells #[.int .i64 r, .int .i64 c] 47)))
      have hrow : Hid (RowP ((w2.alloc (.cells #[.int .i64 r, .int .i64 c] 47)).alloc (.cells #[.int .i64 r, .int .i64 c] 47)) (w.heap.size + 1) (.slice al nl cl) acc) := hide (by obtain ⟨M, _, _, h3, _, _⟩ := R3.out; exact h3)
      have hrg : Hid (((w2.alloc (.cells #[.int .i64 r, .int .i64 c] 47)).alloc (.cells #[.int .i64 r, .int .i64 c] 47)).rangeAt (w2.heap.size + 1) 0 (spL (r, c))) := hide (fun jj u hu => by
        have hb := T9.Blk.new1 w2 (.cells #[.int .i64 r, .int .i64 c] 47) #[.int .i64 r, .int .i64 c] 47
        rw [hb.at', Nat.zero_add]
        simpa using hu)
      have hac : Hid (acc.length < 1000000) := hide (by have := ha.out; omega)
      have hBB : Hid (w.heap.size + 1 ≤ ((w2.alloc (.cells #[.int .i64 r, .int .i64 c] 47)).alloc (.cells #[.int .i64 r, .int .i64 c] 47)).heap.size) := hide (by obtain ⟨M, _, _, _, _, h5⟩ := R3.out; have := h5.size; simpa using this)
      clear hb2
      go_wp2_with (refine wpList_appP rfl _ _ rfl rfl rfl hrow.out (r, c) hrg.out hac.out hBB.out ?_; intro v5 w5 g1 g2 g3)
      have R5 := hide (R3.out.app hS.out g1 g2 g3)
      obtain ⟨al5, nl5, cl5, rfl, hnl5⟩ := g1.shapeN
      clear g1 g2 g3 hnl5
      refine ((lnum_is 0).out _).mono ?_
      rintro e w6 ⟨rfl, hb6⟩
      have R6 := hide (R5.out.keep hS.out hb6)
      clear hb6
      by_cases hlt : n < lv
      · have p1 : (n : Int) < (lv : Int) := by omega
        have hn' : n < vs.length := by have := hlv.out; omega
        obtain ⟨bv, ov, rfl, hov⟩ : ∃ b o, av = some ⟨b, o, none⟩ ∧ ∀ (j : Nat) (x : Va), vs[j]? = some x → VaAt w b (o + j * 3) x := by
          rcases hv.out with h | h
          · rw [h] at hn'; cases hn'
          · exact h
        have hA := (hov n _ (List.getElem?_eq_getElem hn')).keep (next R6.out.below (step (Below.refl w6.heap.size w6) (vO 1 0 no)))
        have hok := hide (hvs.out _ (List.getElem_mem hn'))
        have hxe : Hid ((vs[n]?).getD ⟨1, 0, no⟩ = vs[n]) := hide (by rw [List.getElem?_eq_getElem hn']; rfl)
        generalize vs[n] = y at *
        obtain ⟨y0, y1, y2⟩ := y
        obtain ⟨A0, A1, A2⟩ := hA
        simp only at A0 A1 A2
        clear hov hn'
        go_wp2_with fail
        clear A0 A1 A2
        have R7 := hide (R6.out.keep hS.out (step (Below.refl w6.heap.size w6) (vO y0 y1 y2)))
        obtain ⟨M, m1, m2, m3, m4, m5⟩ := R7.out
        obtain ⟨nL, cL, hla, HL⟩ := hR.out.la
        obtain ⟨nC, cC, hce, HCe⟩ := hR.out.ce
        have HGv := hide (give_ok hS.out F stG stC last nL cL hla HL nC cC hce HCe rest (.inr hR.out.gi) nbG.out k r c s _ B M m1 y0 y1 y2 hok.out (nbC.out _ _))
        replace m1 := hide m1
        replace m2 := hide m2
        replace m3 := hide m3
        replace m4 := hide m4
        replace m5 := hide m5
        clear hla HL hce HCe
        go_wp2_with fail
        refine HGv.out.mono ?_
        rintro e w8 ⟨rfl, hg⟩
        have R8 := hide (Rn.give (stG := stG) (stC := stC) (last := last) m1.out m2.out m3.out m4.out m5.out hg)
        clear hg
        go_wp2_with fail
        refine ⟨⟨n + 1, _, acc ++ [(r, c)], hn7, rfl, R8, hide (giv_plain _ _ _ _ _), hide (by rw [ht.out, rn_step, hxe.out, show 70000 - (n + 1) = f by have := hf.out; omega]), hide (by rw [List.length_append, ha.out]; rfl)⟩, ?_⟩
        have h1 : (intOf (.int .i64 ((n : Int) + 1))).toNat = n + 1 := rfl
        have h2 : (intOf (.int .i64 (n : Int))).toNat = n := rfl
        rw [h1, h2]
        omega
      · have p1 : ¬ (n : Int) < (lv : Int) := by omega
        have hxe : Hid ((vs[n]?).getD ⟨1, 0, no⟩ = ⟨1, 0, no⟩) := hide (by rw [List.getElem?_eq_none (by have := hlv.out; omega)]; rfl)
        go_wp2_with fail
        have R7 := hide (R6.out.keep hS.out (step (Below.refl w6.heap.size w6) (vO 1 0 no)))
        obtain ⟨M, m1, m2, m3, m4, m5⟩ := R7.out
        obtain ⟨nL, cL, hla, HL⟩ := hR.out.la
        obtain ⟨nC, cC, hce, HCe⟩ := hR.out.ce
        have HGv := hide (give_ok hS.out F stG stC last nL cL hla HL nC cC hce HCe rest (.inr hR.out.gi) nbG.out k r c s _ B M m1 1 0 no ⟨.inr (.inl ⟨rfl, rfl⟩), by decide, by decide⟩ (nbC.out _ _))
        replace m1 := hide m1
        replace m2 := hide m2
        replace m3 := hide m3
        replace m4 := hide m4
        replace m5 := hide m5
        clear hla HL hce HCe
        go_wp2_with fail
        refine HGv.out.mono ?_
        rintro e w8 ⟨rfl, hg⟩
        have R8 := hide (Rn.give (stG := stG) (stC := stC) (last := last) m1.out m2.out m3.out m4.out m5.out hg)
        clear hg
        go_wp2_with fail
        refine ⟨⟨n + 1, _, acc ++ [(r, c)], hn7, rfl, R8, hide (giv_plain _ _ _ _ _), hide (by rw [ht.out, rn_step, hxe.out, show 70000 - (n + 1) = f by have := hf.out; omega]), hide (by rw [List.length_append, ha.out]; rfl)⟩, ?_⟩
        have h1 : (intOf (.int .i64 ((n : Int) + 1))).toNat = n + 1 := rfl
        have h2 : (intOf (.int .i64 (n : Int))).toNat = n := rfl
        rw [h1, h2]
        omega
end Go.Proofs.YtnpdkojhlgchlaaGreatDoor
