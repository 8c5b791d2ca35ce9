/- A rule's state with more blocks beside it; the law's run, where what is asked of a value hangs on where the fold stands. Proved of the Go text. -/
import Derived.Test.YtnpdkojhlgchlaaGreatDoorColX15
import Derived.Test.YtnpdkojhlgchlaaGreatDoorCnt15
namespace Go.Proofs.YtnpdkojhlgchlaaGreatDoor
open Go.RowKit Go.Sort
open T9 (Blk Chg)
set_option linter.unusedVariables false

/-- A state, and blocks beside it that are only read. -/
def Wth {σ : Type} (S : σ → (Nat → Prop) → World → Prop) (mk : Nat → Prop) (K : World → Prop) (s : σ) (m : Nat → Prop) (w : World) : Prop := ∃ m1, S s m1 w ∧ K w ∧ (∀ k, mk k → ¬ m1 k) ∧ m = (fun k => m1 k ∨ mk k)
theorem wth_stay {σ : Type} {S : σ → (Nat → Prop) → World → Prop} {mk : Nat → Prop} {K : World → Prop} (hS : Stay S) (hK : KeepK mk K) : Stay (Wth S mk K) := by
  constructor
  · rintro s m w ⟨m1, h1, h2, h3, rfl⟩ k hk
    rcases hk with hk | hk
    · exact hS.lt h1 k hk
    · exact hK.lt h2 k hk
  · rintro s m w w' ⟨m1, h1, h2, h3, rfl⟩ hb
    exact ⟨m1, hS.same h1 (fun k hk => hb k (.inl hk)), hK.same h2 (fun k hk => hb k (.inr hk)), h3, rfl⟩
theorem wth_on {σ : Type} {S : σ → (Nat → Prop) → World → Prop} {mk m1 : Nat → Prop} {K : World → Prop} {s2 : σ} {w w' : World} (hK : KeepK mk K) (h : ∃ m', S s2 m' w' ∧ Grw m1 m' w ∧ Chg m1 w w') (h2 : K w) (h3 : ∀ k, mk k → ¬ m1 k) : ∃ m', Wth S mk K s2 m' w' ∧ Grw (fun k => m1 k ∨ mk k) m' w ∧ Chg (fun k => m1 k ∨ mk k) w w' := by
  obtain ⟨m', g1, g2, g3⟩ := h
  refine ⟨fun k => m' k ∨ mk k, ⟨m', g1, hK.same h2 (fun k hk => g3.block k (hK.lt h2 k hk) (h3 k hk)), fun k hk e => ?_, rfl⟩, fun k hk => ?_, chg_of g3 (fun k => .inl)⟩
  · rcases g2 k e with h | h
    · exact h3 k hk h
    · exact absurd (hK.lt h2 k hk) (Nat.not_lt_of_le h)
  · rcases hk with hk | hk
    · rcases g2 k hk with h | h
      · exact .inl (.inl h)
      · exact .inr h
    · exact .inl (.inr hk)
theorem wth_tak {σ : Type} {S : σ → (Nat → Prop) → World → Prop} {mk : Nat → Prop} {K : World → Prop} {tk : σ → Int → Stp × σ} {n : Nat} {caps : Array Value} (hK : KeepK mk K) (h : Tak S tk n caps) : Tak (Wth S mk K) tk n caps := by
  refine ⟨?_, h.ent⟩
  rintro s m x w ⟨m1, h1, h2, h3, rfl⟩ hx1 hx2
  exact (h.call s m1 x w h1 hx1 hx2).mono fun e w' ⟨g1, g2⟩ => ⟨g1, wth_on hK g2 h2 h3⟩
/-- What is asked of each value that a fold is given. -/
def fits {σ : Type} (Q : List Ag → Bool → Va → Prop) (G : List Ag → Nat → Int → Int → Bool → σ → Va → Fs σ) (vs : List Va) : Nat → Nat → Fs σ → Prop
  | 0, _, _ => True
  | _ + 1, _, .over _ => True
  | f + 1, i, .wait rest k r c bs s => Q rest bs ((vs[i]?).getD ⟨1, 0, no⟩) ∧ fits Q G vs f (i + 1) (G rest k r c bs s ((vs[i]?).getD ⟨1, 0, no⟩))
/-- What a fold's Give leads to. -/
structure GiveQ {σ : Type} (Q : List Ag → Bool → Va → Prop) (G : List Ag → Nat → Int → Int → Bool → σ → Va → Fs σ) (S : σ → (Nat → Prop) → World → Prop) (F : Fns) : Prop where
  give : ∀ rest k r c bs s w B M x0 x1 x2, Fld S F w B M rest k true r c bs s → VaOk ⟨x0, x1, x2⟩ → Q rest bs ⟨x0, x1, x2⟩ → Calls Tryz.prog 14 #[.pointer (some ⟨B, 0, none⟩), vV x0 x1 x2] w fun e w' => e = .returned (.int .i64 0) ∧ ∃ M', FoldAt S F w' B M' (G rest k r c bs s ⟨x0, x1, x2⟩) ∧ Grw M M' w ∧ Chg M w w'
set_option maxHeartbeats 8000000 in
set_option maxRecDepth 100000 in
theorem runQ {σ : Type} (fI : Int) (st0 : Fs σ) (Q : List Ag → Bool → Va → Prop) (G : List Ag → Nat → Int → Int → Bool → σ → Va → Fs σ) (a : Option Addr) (len cap : Nat) (w : World)
    (HB : Calls Tryz.prog 10 #[.int .i64 fI, .slice a len cap] (w.alloc (vO 0 0 no)) fun e w' => ∃ B S F M, e = .returned (.tuple #[.pointer (some ⟨B, 0, none⟩), .int .i64 0]) ∧ GiveQ Q G S F ∧ Stay S ∧ FoldAt S F w' B M st0 ∧ (∀ k, M k → (w.alloc (vO 0 0 no)).heap.size ≤ k) ∧ Below (w.alloc (vO 0 0 no)).heap.size (w.alloc (vO 0 0 no)) w')
    (vs : List Va) (hvs : ∀ x ∈ vs, VaOk x) (hpl : fits Q G vs 70000 0 st0) (hvl : vs.length ≤ 1000000) (av : Option Addr) (capv : Nat) (hv : ValsAt w av vs) (x : Va) (L : List (Int × Int)) (htot : rnX G vs 70000 0 st0 = some (x, L)) :
    Calls Tryz.prog 9 #[.int .i64 fI, .slice a len cap, .slice av vs.length capv] w fun e w' => ∃ v, e = .returned (.tuple #[x.v, v, .bool true]) ∧ RowP w' (w.heap.size + 1) v L ∧ Below w.heap.size w w' := by
  replace HB := hide HB
  replace hpl := hide hpl
  replace hvs := hide hvs
  replace hv := hide hv
  replace htot := hide htot
  obtain ⟨lv, hlv⟩ : ∃ lv, vs.length = lv := ⟨_, rfl⟩
  rw [hlv] at hvl ⊢
  replace hlv := hide hlv
  go_enter Tryz.func9, Tryz.ntmps9
  go_wp2_with fail
  refine HB.out.mono ?_
  rintro e w1 ⟨B, S, F, M, rfl, hR, hSS, hF, hM, hK⟩
  have hR0 : Hid (Rn dG dG dL w w1 B S F st0 (.slice none 0 0) []) := hide ⟨M, hF, fun k hk => by simpa using hM k hk, RowP.nil _ _, (fun k hk => by cases hk), by simpa using hK⟩
  replace hR := hide hR
  replace hSS := hide hSS
  clear hF hM hK HB
  go_wp2_with fail
  go_loopw [11, 12] (fun l i wr => ∃ (n : Nat) (st : Fs σ) (acc : List (Int × Int)), n ≤ 70000 ∧ i = .int .i64 (n : Int) ∧ Hid (Rn dG dG dL w wr B S F st l acc) ∧ Hid (fits Q G vs (70000 - n) n st) ∧ Hid (rnX G vs 70000 0 st0 = (rnX G vs (70000 - n) n st).map fun p => (p.1, acc ++ p.2)) ∧ Hid (acc.length = n)) (fun _ i _ => 70000 - (intOf i).toNat)
  case atStart => exact ⟨0, st0, [], Nat.zero_le _, rfl, hR0, hpl, hide (by cases rnX G vs 70000 0 st0 <;> simp), hide rfl⟩
  case round =>
    obtain ⟨n, st, acc, hn, rfl, HR, hp, ht, ha⟩ := hrel
    obtain ⟨al, nl, cl, rfl, hnl⟩ : ∃ a n cap, u11 = .slice a n cap ∧ n = acc.length := by obtain ⟨M, _, _, h3, _⟩ := HR.out; exact h3.shapeN
    have hS := hSS
    have hn7 : n < 70000 := by
      rcases Nat.lt_or_ge n 70000 with h | h
      · exact h
      · have e := ht.out
        rw [htot.out, show 70000 - n = 0 by omega] at e
        cases e
    have p0 : (n : Int) < 70000 := by omega
    obtain ⟨f, hf⟩ : ∃ f, 70000 - n = f + 1 := ⟨69999 - n, by omega⟩
    replace ht : Hid (rnX G vs 70000 0 st0 = (rnX G vs (f + 1) n st).map fun p => (p.1, acc ++ p.2)) := hide (by rw [← hf]; exact ht.out)
    replace hp : Hid (fits Q G vs (f + 1) n st) := hide (by rw [← hf]; exact hp.out)
    replace hf := hide hf
    replace hnl := hide hnl
    have hBx := hide HR.out.box
    cases st with
    | over y =>
      obtain ⟨y0, y1, y2⟩ := y
      have hxl : x = ⟨y0, y1, y2⟩ ∧ L = acc := by
        have e := ht.out
        rw [htot.out] at e
        simp [rnX] at e
        exact e
      obtain ⟨rfl, rfl⟩ := hxl
      have hov : Hid (Ovr wr B ⟨y0, y1, y2⟩) := hide (by obtain ⟨M, h1, _⟩ := HR.out; exact h1.1)
      have HN := hide (next_any hov.out)
      go_wp2_with fail
      refine HN.out.mono ?_
      rintro e w2 ⟨rfl, hb2⟩
      have R2 := hide (HR.out.keep hS.out (next (Below.refl _ _) hb2))
      have R3 := hide (R2.out.keep hS.out (step (Below.refl w2.heap.size w2) (.cells #[.int .i64 0, .int .i64 0] 47)))
      have hov3 : Hid (Ovr (w2.alloc (.cells #[.int .i64 0, .int .i64 0] 47)) B ⟨y0, y1, y2⟩) := hide (by obtain ⟨M, h1, _⟩ := R3.out; exact h1.1)
      have HE := hide (end_any hov3.out)
      clear hb2
      go_wp2_with fail
      refine HE.out.mono ?_
      rintro e w4 ⟨rfl, hb4⟩
      have R4 := hide (R3.out.keep hS.out hb4)
      have R5 := hide (R4.out.keep hS.out (step (Below.refl w4.heap.size w4) (vO y0 y1 y2)))
      have bx := hide R5.out.box
      have z0 : (w4.alloc (vO y0 y1 y2)).cell? ⟨w.heap.size, 0, none⟩ = some (.int .i64 0) := bx.out.at' 0
      have z1 : (w4.alloc (vO y0 y1 y2)).cell? ⟨w.heap.size, 1, none⟩ = some (.int .i64 0) := bx.out.at' 1
      have z2 : (w4.alloc (vO y0 y1 y2)).cell? ⟨w.heap.size, 2, none⟩ = some (.string no) := bx.out.at' 2
      have zf := bx.out.fr
      have h9 := ((bx.out.set 0 (.int .i64 y0)).set 1 (.int .i64 y1)).set 2 (.string y2)
      have c9 := hide (((((Chg.refl (· = w.heap.size) (w4.alloc (vO y0 y1 y2))).set w.heap.size 0 (.int .i64 y0) rfl).set w.heap.size 1 (.int .i64 y1) rfl).set w.heap.size 2 (.string y2) rfl))
      obtain ⟨w9, hw9⟩ : ∃ w9, put3 (w4.alloc (vO y0 y1 y2)) w.heap.size (.int .i64 y0) (.int .i64 y1) (.string y2) = w9 := ⟨_, rfl⟩
      unfold put3 at hw9
      rw [hw9] at h9 c9
      have q0 : w9.cell? ⟨w.heap.size, 0, none⟩ = some (.int .i64 y0) := h9.at' 0
      have q1 : w9.cell? ⟨w.heap.size, 1, none⟩ = some (.int .i64 y1) := h9.at' 1
      have q2 : w9.cell? ⟨w.heap.size, 2, none⟩ = some (.string y2) := h9.at' 2
      replace h9 := hide h9
      clear hb4
      go_wp2_with fail
      refine bodyPost_ret (by simp [results, Tryz.results9, go_sem, q0, q1, q2]; try rfl) rfl ?_
      refine ⟨_, rfl, ?_, ?_⟩
      · obtain ⟨M, _, _, h3, _, _⟩ := R5.out
        exact h3.chg c9.out (fun k hk e => by have := (owns_lt h3 k hk).1; omega)
      · have b5 := R5.out.below
        exact ⟨c9.out.os.trans b5.os, c9.out.tape.trans b5.tape, c9.out.output.trans b5.output, Nat.le_trans b5.size c9.out.size, fun k hk => (c9.out.block k (Nat.lt_of_lt_of_le hk b5.size) (by omega)).trans (b5.block k hk)⟩
    | wait rest k r c bs s =>
      obtain ⟨th, rst, hbk⟩ : ∃ th rst, Blk wr B (fC th F.gi F.ce F.be F.se F.la rst k true r c bs 0 0 no) 79 := by obtain ⟨M, h1, _⟩ := HR.out; exact fold_blk h1
      have HN := hide (next_any hbk)
      clear hbk
      go_wp2_with fail
      refine HN.out.mono ?_
      rintro e w2 ⟨rfl, hb2⟩
      have R2 := hide (HR.out.keep hS.out hb2)
      have R3 := hide (R2.out.keep hS.out (step (step (Below.refl w2.heap.size w2) (.cells #[.int .i64 r, .int .i64 c] 47)) (.cells #[.int .i64 r, .int .i64 c] 47)))
      have hrow : Hid (RowP ((w2.alloc (.cells #[.int .i64 r, .int .i64 c] 47)).alloc (.cells #[.int .i64 r, .int .i64 c] 47)) (w.heap.size + 1) (.slice al nl cl) acc) := hide (by obtain ⟨M, _, _, h3, _, _⟩ := R3.out; exact h3)
      have hrg : Hid (((w2.alloc (.cells #[.int .i64 r, .int .i64 c] 47)).alloc (.cells #[.int .i64 r, .int .i64 c] 47)).rangeAt (w2.heap.size + 1) 0 (spL (r, c))) := hide (fun jj u hu => by
        have hb := T9.Blk.new1 w2 (.cells #[.int .i64 r, .int .i64 c] 47) #[.int .i64 r, .int .i64 c] 47
        rw [hb.at', Nat.zero_add]
        simpa using hu)
      have hac : Hid (acc.length < 1000000) := hide (by have := ha.out; omega)
      have hBB : Hid (w.heap.size + 1 ≤ ((w2.alloc (.cells #[.int .i64 r, .int .i64 c] 47)).alloc (.cells #[.int .i64 r, .int .i64 c] 47)).heap.size) := hide (by obtain ⟨M, _, _, _, _, h5⟩ := R3.out; have := h5.size; simpa using this)
      clear hb2
      go_wp2_with (refine wpList_appP rfl _ _ rfl rfl rfl hrow.out (r, c) hrg.out hac.out hBB.out ?_; intro v5 w5 g1 g2 g3)
      have R5 := hide (R3.out.app hS.out g1 g2 g3)
      obtain ⟨al5, nl5, cl5, rfl, hnl5⟩ := g1.shapeN
      clear g1 g2 g3 hnl5
      refine ((lnum_is 0).out _).mono ?_
      rintro e w6 ⟨rfl, hb6⟩
      have R6 := hide (R5.out.keep hS.out hb6)
      clear hb6
      by_cases hlt : n < lv
      · have p1 : (n : Int) < (lv : Int) := by omega
        have hn' : n < vs.length := by have := hlv.out; omega
        obtain ⟨bv, ov, rfl, hov⟩ : ∃ b o, av = some ⟨b, o, none⟩ ∧ ∀ (j : Nat) (x : Va), vs[j]? = some x → VaAt w b (o + j * 3) x := by
          rcases hv.out with h | h
          · rw [h] at hn'; cases hn'
          · exact h
        have hA := (hov n _ (List.getElem?_eq_getElem hn')).keep (next R6.out.below (step (Below.refl w6.heap.size w6) (vO 1 0 no)))
        have hok := hide (hvs.out _ (List.getElem_mem hn'))
        have hxe : Hid ((vs[n]?).getD ⟨1, 0, no⟩ = vs[n]) := hide (by rw [List.getElem?_eq_getElem hn']; rfl)
        generalize vs[n] = y at *
        obtain ⟨y0, y1, y2⟩ := y
        obtain ⟨A0, A1, A2⟩ := hA
        simp only at A0 A1 A2
        clear hov hn'
        go_wp2_with fail
        clear A0 A1 A2
        have R7 := hide (R6.out.keep hS.out (step (Below.refl w6.heap.size w6) (vO y0 y1 y2)))
        obtain ⟨M, m1, m2, m3, m4, m5⟩ := R7.out
        have HGv := hide (hR.out.give rest k r c bs s _ B M y0 y1 y2 m1 hok.out (by have := hp.out; rw [fits, hxe.out] at this; exact this.1))
        replace m1 := hide m1
        replace m2 := hide m2
        replace m3 := hide m3
        replace m4 := hide m4
        replace m5 := hide m5
        go_wp2_with fail
        refine HGv.out.mono ?_
        rintro e w8 ⟨rfl, hg⟩
        have R8 := hide (Rn.give (stG := dG) (stC := dG) (last := dL) m1.out m2.out m3.out m4.out m5.out hg)
        clear hg
        go_wp2_with fail
        refine ⟨⟨n + 1, _, acc ++ [(r, c)], hn7, rfl, R8, hide (by have := hp.out; rw [fits, hxe.out] at this; rw [show 70000 - (n + 1) = f by have := hf.out; omega]; exact this.2), hide (by rw [ht.out, rnX_step, hxe.out, show 70000 - (n + 1) = f by have := hf.out; omega]), hide (by rw [List.length_append, ha.out]; rfl)⟩, ?_⟩
        have h1 : (intOf (.int .i64 ((n : Int) + 1))).toNat = n + 1 := rfl
        have h2 : (intOf (.int .i64 (n : Int))).toNat = n := rfl
        rw [h1, h2]
        omega
      · have p1 : ¬ (n : Int) < (lv : Int) := by omega
        have hxe : Hid ((vs[n]?).getD ⟨1, 0, no⟩ = ⟨1, 0, no⟩) := hide (by rw [List.getElem?_eq_none (by have := hlv.out; omega)]; rfl)
        go_wp2_with fail
        have R7 := hide (R6.out.keep hS.out (step (Below.refl w6.heap.size w6) (vO 1 0 no)))
        obtain ⟨M, m1, m2, m3, m4, m5⟩ := R7.out
        have HGv := hide (hR.out.give rest k r c bs s _ B M 1 0 no m1 ⟨.inr (.inl ⟨rfl, rfl⟩), by decide, by decide⟩ (by have := hp.out; rw [fits, hxe.out] at this; exact this.1))
        replace m1 := hide m1
        replace m2 := hide m2
        replace m3 := hide m3
        replace m4 := hide m4
        replace m5 := hide m5
        go_wp2_with fail
        refine HGv.out.mono ?_
        rintro e w8 ⟨rfl, hg⟩
        have R8 := hide (Rn.give (stG := dG) (stC := dG) (last := dL) m1.out m2.out m3.out m4.out m5.out hg)
        clear hg
        go_wp2_with fail
        refine ⟨⟨n + 1, _, acc ++ [(r, c)], hn7, rfl, R8, hide (by have := hp.out; rw [fits, hxe.out] at this; rw [show 70000 - (n + 1) = f by have := hf.out; omega]; exact this.2), hide (by rw [ht.out, rnX_step, hxe.out, show 70000 - (n + 1) = f by have := hf.out; omega]), hide (by rw [List.length_append, ha.out]; rfl)⟩, ?_⟩
        have h1 : (intOf (.int .i64 ((n : Int) + 1))).toNat = n + 1 := rfl
        have h2 : (intOf (.int .i64 (n : Int))).toNat = n := rfl
        rw [h1, h2]
        omega
/-- What a rule that wants places beside keeps to. -/
structure BesX {σ : Type} (Qc : Va → Prop) (stC stS : σ → Va → Stp × σ) (bf : Int → Int → Int × Int) (last : σ → Va) (S : σ → (Nat → Prop) → World → Prop) (F : Fns) : Prop where
  stay : Stay S
  la : ∃ n c, F.la = .func (.func n) #[] c ∧ Ends S last n c
  ce : ∃ n c, F.ce = .func (.func n) #[] c ∧ DoesQ (fun _ v => Qc v) S stC n c
  be : ∃ n c, F.be = .func (.func n) #[] c ∧ BesIs S bf n c
  se : ∃ n c, F.se = .func (.func n) #[] c ∧ DoesQ (fun _ _ => True) S stS n c
def gB {σ : Type} (stC stS : σ → Va → Stp × σ) (bf : Int → Int → Int × Int) (last : σ → Va) (rest : List Ag) (k : Nat) (r c : Int) (bs : Bool) (s : σ) (v : Va) : Fs σ := if bs then giv dG last rest k (stS s v) else givC dG last bf rest k r c (stC s v)
def qB (m : Nat) (Qc : Va → Prop) (rest : List Ag) (bs : Bool) (v : Va) : Prop := rest = [agC (m : Nat)] ∧ (bs = false → Qc v)
theorem bes_give {σ : Type} {Qc : Va → Prop} {stC stS : σ → Va → Stp × σ} {bf : Int → Int → Int × Int} {last : σ → Va} (m : Nat) (hnb : ∀ s x, (stS s x).1 ≠ .bes) {S : σ → (Nat → Prop) → World → Prop} {F : Fns} (h : BesX Qc stC stS bf last S F) : GiveQ (qB m Qc) (gB stC stS bf last) S F := by
  obtain ⟨nL, cL, hla, HL⟩ := h.la
  obtain ⟨nC, cC, hce, HC⟩ := h.ce
  obtain ⟨nS, cS, hse, HS⟩ := h.se
  constructor
  intro rest k r c bs s w B M x0 x1 x2 hf hx hq
  obtain ⟨rfl, hq⟩ := hq
  cases bs with
  | false => exact giveC h.stay F _ dG stC bf last nL cL hla HL nC cC hce HC (.inr h.be) _ (.inl (agC_isC m)) (fun s x e => by cases e) k r c s w B M hf x0 x1 x2 hx (hq rfl)
  | true => exact giveS h.stay F _ dG stS last nL cL hla HL nS cS nC cC hce hse HS _ (.inl (agC_isC m)) (fun s x e => by cases e) k r c s w B M hf x0 x1 x2 hx trivial (hnb _ _)
end Go.Proofs.YtnpdkojhlgchlaaGreatDoor
