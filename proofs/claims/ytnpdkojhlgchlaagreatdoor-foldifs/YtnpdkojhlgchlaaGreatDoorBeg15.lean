/- Package fold's Begin: a fold at its beginning, for whatever makes its rule. Proved of the Go text. -/
import Derived.Test.YtnpdkojhlgchlaaGreatDoorMak15
namespace Go.Proofs.YtnpdkojhlgchlaaGreatDoor
open Go.RowKit Go.Sort
open T9 (Blk Chg)
set_option linter.unusedVariables false

/-- A rule keeps to its functions. -/
structure Rul {σ : Type} (S : σ → (Nat → Prop) → World → Prop) (F : Fns) (stG stC : σ → Va → Stp × σ) (last : σ → Va) : Prop where
  stay : Stay S
  la : ∃ n c, F.la = .func (.func n) #[] c ∧ Ends S last n c
  ce : ∃ n c, F.ce = .func (.func n) #[] c ∧ Does S stC n c
  gi : ∃ n c, F.gi = .func (.func n) #[] c ∧ Does S stG n c
abbrev fns (nG : Nat) (cG : Array Value) (nC : Nat) (cC : Array Value) (nL : Nat) (cL : Array Value) : Fns := ⟨.func (.func nG) #[] cG, .func (.func nC) #[] cC, .nilFunc, .nilFunc, .func (.func nL) #[] cL⟩
/-- What makes a rule of its arguments. -/
structure MkIs {σ : Type} (fn : Nat) (s0 : σ) (stG stC : σ → Va → Stp × σ) (last : σ → Va) : Prop where
  call : ∀ w a len cap, Calls Tryz.prog fn #[.slice a len cap] w fun e w' => ∃ (nG : Nat) (cG : Array Value) (nC : Nat) (cC : Array Value) (nL : Nat) (cL : Array Value) (S : σ → (Nat → Prop) → World → Prop) (m : Nat → Prop), e = .returned (.agg #[.slice a len cap, .func (.func nG) #[] cG, .func (.func nC) #[] cC, .nilFunc, .nilFunc, .func (.func nL) #[] cL]) ∧ Rul S (fns nG cG nC cC nL cL) stG stC last ∧ S s0 m w' ∧ (∀ k, m k → w.heap.size ≤ k) ∧ Below w.heap.size w w'
  ent : ∀ args w, (callFunc fn args).run Tryz.prog w = .ok (.enter fn args) w
  nbG : ∀ s x, (stG s x).1 ≠ .bes
  nbC : ∀ s x, (stC s x).1 ≠ .bes
theorem celN_nb {σ : Type} {tk : σ → Int → Stp × σ} (h : ∀ s x, (tk s x).1 ≠ .bes) (s : σ) (x : Va) : (celN tk s x).1 ≠ .bes := by
  unfold celN; split
  · exact h _ _
  · split <;> simp
theorem givN_nb {σ : Type} {nm : Va → Int × Int} {tk : σ → Int → Stp × σ} (h : ∀ s x, (tk s x).1 ≠ .bes) (s : σ) (x : Va) : (givN nm tk s x).1 ≠ .bes := by
  unfold givN; split
  · exact h _ _
  · simp
theorem sum_mkis (nm : Va → Int × Int) (hnm : NmbIs nm) : MkIs 40 (0 : Int) (givN nm sumT) (celN sumT) (fun n => ⟨1, n, no⟩) := by
  refine ⟨fun w a len cap => (sum_mk a len cap w).mono fun e w' ⟨h1, h2, h3⟩ => ?_, ent_of Tryz.func40 (by kernel_rfl) (by kernel_rfl), givN_nb sumT_nb, celN_nb sumT_nb⟩
  refine ⟨_, _, _, _, _, _, _, _, h1, ⟨sum_stay _ _ _ _ _, ⟨_, _, rfl, sumL_ends _ _ _ _ _⟩, ⟨_, _, rfl, ofn_does (sum_stay _ _ _ _ _) sumT _ _ (into_tak _ _ _ _ _) _ (fun s m w h => h.2.2.2.2.1) sumT_nb⟩, ⟨_, _, rfl, gat_does (sum_stay _ _ _ _ _) nm hnm sumT _ _ (into_tak _ _ _ _ _) _ (fun s m w h => h.2.2.2.1) sumT_nb⟩⟩, h2, fun k hk => by omega, h3⟩
/-- A rule has been made, and lies in a box. -/
def Made {σ : Type} (s0 : σ) (stG stC : σ → Va → Stp × σ) (last : σ → Va) (xs : List Ag) (w wx : World) (X : Nat) : Prop :=
  ∃ (F : Fns) (S : σ → (Nat → Prop) → World → Prop) (m : Nat → Prop) (g cap : Nat), Blk wx X #[.slice (some ⟨g, 0, none⟩) xs.length cap, F.gi, F.ce, F.be, F.se, F.la] 74 ∧ Rul S F stG stC last ∧ S s0 m wx ∧ (∀ k, m k → w.heap.size ≤ k) ∧ w.heap.size ≤ g ∧ g < wx.heap.size ∧ ¬ m g ∧ xs.length ≤ cap ∧ (∀ (j : Nat) (x : Ag), xs[j]? = some x → wx.rangeAt g (0 + j * 8) (agL x)) ∧ Below w.heap.size w wx
theorem args_below {w w' : World} {a : Option Addr} {xs : List Ag} (h : ArgsAt w (· < w.heap.size) a xs) (hb : Below w.heap.size w w') : ArgsAt w' (· < w'.heap.size) a xs := h.move (fun k hk => ⟨Nat.lt_of_lt_of_le hk hb.size, hb.block k hk⟩)
theorem made_a {σ : Type} {s0 : σ} {stG stC : σ → Va → Stp × σ} {last : σ → Va} {xs : List Ag} {w wb wc wd : World} {F : Fns} {S : σ → (Nat → Prop) → World → Prop} {m : Nat → Prop} {g cap len : Nat} (hlen : xs.length = len) (h1 : Rul S F stG stC last) (h2 : S s0 m wd) (h3 : ∀ k, m k → wc.heap.size ≤ k) (hbc : wb.heap.size ≤ wc.heap.size) (hwb : w.heap.size ≤ wb.heap.size) (hbw : Below wb.heap.size wb wc) (h4 : Below wc.heap.size wc wd) (g1 : w.heap.size ≤ g) (g2 : g < wb.heap.size) (g3 : len ≤ cap) (g4 : ∀ (j : Nat) (x : Ag), xs[j]? = some x → wb.rangeAt g (0 + j * 8) (agL x)) (hK : Below w.heap.size w wd) :
    Made s0 stG stC last xs w (wd.alloc (.cells #[.slice (some ⟨g, 0, none⟩) len cap, F.gi, F.ce, F.be, F.se, F.la] 74)) wd.heap.size := by
  subst hlen
  have hgc : g < wc.heap.size := Nat.lt_of_lt_of_le g2 hbc
  have hgd : g < wd.heap.size := Nat.lt_of_lt_of_le hgc h4.size
  refine ⟨F, S, m, g, cap, Blk.new _ _ _, h1, sm_of h1.stay h2 (step (Below.refl _ _) _), fun k hk => Nat.le_trans hwb (Nat.le_trans hbc (h3 k hk)), g1, Nat.lt_of_lt_of_le hgd (by simp), fun e => by have := h3 g e; omega, g3, fun j x hx => T9.range_of_block (g4 j x hx) ((Below.heap_alloc wd _ g hgd).trans ((h4.block g hgc).trans (hbw.block g g2))), step hK _⟩
theorem made_b {σ : Type} {s0 : σ} {stG stC : σ → Va → Stp × σ} {last : σ → Va} {xs : List Ag} {w wb wc wd wx : World} {X : Nat} {F : Fns} {S : σ → (Nat → Prop) → World → Prop} {m : Nat → Prop} {g cap len : Nat} (hlen : xs.length = len) (h1 : Rul S F stG stC last) (h2 : S s0 m wd) (h3 : ∀ k, m k → wc.heap.size ≤ k) (hbc : wb.heap.size ≤ wc.heap.size) (hwb : w.heap.size ≤ wb.heap.size) (hbw : Below wb.heap.size wb wc) (h4 : Below wc.heap.size wc wd) (g1 : w.heap.size ≤ g) (g2 : g < wb.heap.size) (g3 : len ≤ cap) (g4 : ∀ (j : Nat) (x : Ag), xs[j]? = some x → wb.rangeAt g (0 + j * 8) (agL x)) (hK : Below w.heap.size w wd) (hX1 : w.heap.size ≤ X) (hX2 : X < wc.heap.size) (hXg : X ≠ g) (hb : Blk wx X #[.slice (some ⟨g, 0, none⟩) len cap, F.gi, F.ce, F.be, F.se, F.la] 74) (hc : Chg (· = X) wd wx) :
    Made s0 stG stC last xs w wx X := by
  subst hlen
  have hgc : g < wc.heap.size := Nat.lt_of_lt_of_le g2 hbc
  have hgd : g < wd.heap.size := Nat.lt_of_lt_of_le hgc h4.size
  refine ⟨F, S, m, g, cap, hb, h1, h1.stay.same h2 (fun k hk => hc.block k (h1.stay.lt h2 k hk) (fun e => by have := h3 k hk; omega)), fun k hk => Nat.le_trans hwb (Nat.le_trans hbc (h3 k hk)), g1, Nat.lt_of_lt_of_le hgd hc.size, fun e => by have := h3 g e; omega, g3, fun j x hx => T9.range_of_block (g4 j x hx) ((hc.block g hgd (Ne.symm hXg)).trans ((h4.block g hgc).trans (hbw.block g g2))), ?_⟩
  exact ⟨hc.os.trans hK.os, hc.tape.trans hK.tape, hc.output.trans hK.output, Nat.le_trans hK.size hc.size, fun k hk => (hc.block k (Nat.lt_of_lt_of_le hk hK.size) (by omega)).trans (hK.block k hk)⟩
set_option maxHeartbeats 8000000 in
set_option maxRecDepth 100000 in
theorem begin_ok {σ : Type} (fI : Int) (fn : Nat) (s0 : σ) (stG stC : σ → Va → Stp × σ) (last : σ → Va) (MK : MkIs fn s0 stG stC last) (nm : ByteArray) (mn mx : Int) (HI : CallIs 20 #[.int .i64 fI] (.tuple #[.agg #[.string nm, .int .i64 6, .int .i64 mn, .int .i64 mx], .int .i64 0])) (HX : ∀ w, (Instr.index 76 (.agg fcatC) (.int .i64 fI)).run Tryz.prog w = .ok (.func (.func fn) #[] #[]) w)
    (xs : List Ag) (hx : 0 < xs.length) (hl : xs.length ≤ 1000) (hmn : mn ≤ (xs.length : Int)) (hmx : (xs.length : Int) ≤ mx ∨ mx = -1) (hok : ∀ a ∈ xs, AgOk a) (a : Option Addr) (cap : Nat) (w : World) (h : ArgsAt w (· < w.heap.size) a xs) :
    Calls Tryz.prog 10 #[.int .i64 fI, .slice a xs.length cap] w fun e w' => ∃ B S F M, e = .returned (.tuple #[.pointer (some ⟨B, 0, none⟩), .int .i64 0]) ∧ Rul S F stG stC last ∧ FoldAt S F w' B M (goOn stG last xs 0 s0) ∧ (∀ k, M k → w.heap.size ≤ k) ∧ Below w.heap.size w w' := by
  have HT := takes_yes nm 6 mn mx (xs.length : Int) hmn hmx
  have HCl := hide (fun w' cap' (h' : ArgsAt w' (· < w'.heap.size) a xs) => clone_any xs hx (by omega) a cap' (· < w'.heap.size) w' (fun _ h => h) h')
  obtain ⟨b, o, rfl, hb, hrow⟩ : ∃ b o, a = some ⟨b, o, none⟩ ∧ b < w.heap.size ∧ ∀ (j : Nat) (x : Ag), xs[j]? = some x → w.rangeAt b (o + j * 8) (agL x) := by
    rcases h with h | h
    · rw [h] at hx; cases hx
    · exact h
  obtain ⟨len, hlen⟩ : ∃ len, xs.length = len := ⟨_, rfl⟩
  rw [hlen] at hl HT HCl ⊢
  replace hrow := hide hrow
  replace h := hide h
  replace hok := hide hok
  replace hb := hide hb
  replace MK := hide MK
  replace hlen := hide hlen
  replace hx := hide hx
  clear hmn hmx
  go_enter Tryz.func10, Tryz.ntmps10
  go_wp2_with fail
  refine (HI.out _).mono ?_
  rintro e w1 ⟨rfl, hb1⟩
  have K1 := hide (step hb1 (.cells #[.string nm, .int .i64 6, .int .i64 mn, .int .i64 mx] 65))
  go_wp2_with fail
  refine (HT.out _).mono ?_
  rintro e w2 ⟨rfl, hb2⟩
  have K2 := hide (next K1.out hb2)
  clear HI HT hb1 hb2 K1
  go_wp2_with fail
  go_loopw [32] (fun v wr => ∃ j : Nat, j ≤ len ∧ v = .int .i64 (j : Int) ∧ Hid (Below w.heap.size w wr)) (fun v _ => len - (intOf v).toNat)
  case atStart => exact ⟨0, Nat.zero_le _, rfl, K2⟩
  case round =>
    obtain ⟨j, hj, rfl, KR⟩ := hrel
    by_cases hlt : j < len
    · have p0 : (j : Int) < (len : Int) := by omega
      have hj' : j < xs.length := by have := hlen.out; omega
      have hA := T9.range_of_block (hrow.out j _ (List.getElem?_eq_getElem hj')) (KR.out.block b hb.out)
      have oka := hide (may_yes _ (hok.out _ (List.getElem_mem hj')))
      generalize xs[j] = ag at *
      obtain ⟨is, t, l, bb, r0, ⟨vk, vi, vt⟩⟩ := ag
      have a0 : wr.cell? ⟨b, o + j * 8, none⟩ = some (.bool is) := hA 0 _ rfl
      have a1 : wr.cell? ⟨b, o + j * 8 + 1, none⟩ = some (.int .i64 t) := hA 1 _ rfl
      have a2 : wr.cell? ⟨b, o + j * 8 + 2, none⟩ = some (.int .i64 l) := hA 2 _ rfl
      have a3 : wr.cell? ⟨b, o + j * 8 + 3, none⟩ = some (.int .i64 bb) := hA 3 _ rfl
      have a4 : wr.cell? ⟨b, o + j * 8 + 4, none⟩ = some (.int .i64 r0) := hA 4 _ rfl
      have a5 : wr.cell? ⟨b, o + j * 8 + 5, none⟩ = some (.int .i64 vk) := hA 5 _ rfl
      have a6 : wr.cell? ⟨b, o + j * 8 + 6, none⟩ = some (.int .i64 vi) := hA 6 _ rfl
      have a7 : wr.cell? ⟨b, o + j * 8 + 7, none⟩ = some (.string vt) := hA 7 _ rfl
      clear hA hj'
      go_wp2_with fail
      refine (oka.out.out _).mono ?_
      rintro e w3 ⟨rfl, hb3⟩
      have K3 := hide (next (step KR.out _) hb3)
      clear hb3 a0 a1 a2 a3 a4 a5 a6 a7
      go_wp2_with fail
      refine ⟨⟨j + 1, hlt, rfl, K3⟩, ?_⟩
      have h1 : (intOf (.int .i64 ((j : Int) + 1))).toNat = j + 1 := rfl
      have h2 : (intOf (.int .i64 (j : Int))).toNat = j := rfl
      rw [h1, h2]
      omega
    · obtain rfl : j = len := by omega
      go_upto_region 13 with fail
      have hentF := MK.out.ent
      have hlj : Hid (j ≤ 1000000) := hide (by omega)
      clear hl
      go_cut [11] from 42 to 47 (fun c wx => ∃ X, c = .pointer (some ⟨X, 0, none⟩) ∧ Hid (Made s0 stG stC last xs w wx X))
      case first =>
        go_region_held (fun _ => True) (trivial) (first
          | (have hq := KC; refine (MK.out.call _ _ _ _).mono ?_; rintro e wd ⟨nG, cG, nC, cC, nL, cL, S, m, rfl, r1, r2, r3, r4⟩; have KD := hide (next (by first | exact KC.out | exact step KC.out _) r4); have R1 := hide r1; have R2 := hide r2; have R3 := hide r3; have R4 := hide r4; (try (have Z3 : Hid (Blk wd wr.heap.size #[.slice none 0 0, .nilFunc, .nilFunc, .nilFunc, .nilFunc, .nilFunc] 74) := hide (T9.Blk.keep Z2.out r4); have z0 : wd.cell? ⟨wr.heap.size, 0, none⟩ = some (.slice none 0 0) := Z3.out.at' 0; have z1 : wd.cell? ⟨wr.heap.size, 1, none⟩ = some (.nilFunc) := Z3.out.at' 1; have z2 : wd.cell? ⟨wr.heap.size, 2, none⟩ = some (.nilFunc) := Z3.out.at' 2; have z3 : wd.cell? ⟨wr.heap.size, 3, none⟩ = some (.nilFunc) := Z3.out.at' 3; have z4 : wd.cell? ⟨wr.heap.size, 4, none⟩ = some (.nilFunc) := Z3.out.at' 4; have z5 : wd.cell? ⟨wr.heap.size, 5, none⟩ = some (.nilFunc) := Z3.out.at' 5; have zf := Z3.out.fr)); (try (have Y3 : Hid (Blk wd wa.heap.size #[.slice none 0 0, .nilFunc, .nilFunc, .nilFunc, .nilFunc, .nilFunc] 74) := hide (T9.Blk.keep Y2.out r4); have z0 : wd.cell? ⟨wa.heap.size, 0, none⟩ = some (.slice none 0 0) := Y3.out.at' 0; have z1 : wd.cell? ⟨wa.heap.size, 1, none⟩ = some (.nilFunc) := Y3.out.at' 1; have z2 : wd.cell? ⟨wa.heap.size, 2, none⟩ = some (.nilFunc) := Y3.out.at' 2; have z3 : wd.cell? ⟨wa.heap.size, 3, none⟩ = some (.nilFunc) := Y3.out.at' 3; have z4 : wd.cell? ⟨wa.heap.size, 4, none⟩ = some (.nilFunc) := Y3.out.at' 4; have z5 : wd.cell? ⟨wa.heap.size, 5, none⟩ = some (.nilFunc) := Y3.out.at' 5; have zf := Y3.out.fr)); (try (have V3 : Hid (Blk wd wb.heap.size #[.slice none 0 0, .nilFunc, .nilFunc, .nilFunc, .nilFunc, .nilFunc] 74) := hide (T9.Blk.keep (Blk.new wb #[.slice none 0 0, .nilFunc, .nilFunc, .nilFunc, .nilFunc, .nilFunc] 74) r4); have z0 : wd.cell? ⟨wb.heap.size, 0, none⟩ = some (.slice none 0 0) := V3.out.at' 0; have z1 : wd.cell? ⟨wb.heap.size, 1, none⟩ = some (.nilFunc) := V3.out.at' 1; have z2 : wd.cell? ⟨wb.heap.size, 2, none⟩ = some (.nilFunc) := V3.out.at' 2; have z3 : wd.cell? ⟨wb.heap.size, 3, none⟩ = some (.nilFunc) := V3.out.at' 3; have z4 : wd.cell? ⟨wb.heap.size, 4, none⟩ = some (.nilFunc) := V3.out.at' 4; have z5 : wd.cell? ⟨wb.heap.size, 5, none⟩ = some (.nilFunc) := V3.out.at' 5; have zf := V3.out.fr)); clear r1 r2 r3 r4)
          | (have hq := KA; refine (HCl.out _ _ (args_below h.out (by first | exact KA.out | exact step KA.out _))).mono ?_; rintro e wb ⟨g, cp, rfl, g1, g2, g3, g4, g5⟩; have KC := hide (next (by first | exact KA.out | exact step KA.out _) g5); have G1 := hide g1; have G2 := hide g2; have G3 := hide g3; have G4 := hide g4; (try (have Z2 : Hid (Blk wb wr.heap.size #[.slice none 0 0, .nilFunc, .nilFunc, .nilFunc, .nilFunc, .nilFunc] 74) := hide (T9.Blk.keep Z1.out g5))); (try (have Y2 : Hid (Blk wb wa.heap.size #[.slice none 0 0, .nilFunc, .nilFunc, .nilFunc, .nilFunc, .nilFunc] 74) := hide (T9.Blk.keep (Blk.new wa #[.slice none 0 0, .nilFunc, .nilFunc, .nilFunc, .nilFunc, .nilFunc] 74) g5))); clear g1 g2 g3 g4 g5)
          | (refine (frows_any _).mono ?_; rintro e wa ⟨rfl, ha⟩; have KA := hide (next (by first | exact KR.out.drew | exact (step KR.out _).drew) ha); (try (have Z1 : Hid (Blk wa wr.heap.size #[.slice none 0 0, .nilFunc, .nilFunc, .nilFunc, .nilFunc, .nilFunc] 74) := hide (T9.Blk.keep (drewB (Blk.new wr #[.slice none 0 0, .nilFunc, .nilFunc, .nilFunc, .nilFunc, .nilFunc] 74)) ha))); clear ha))
        all_goals (go_wp2_with fail)
        all_goals go_meet
        all_goals (first
          | (have hq9 := V3; exact ⟨_, rfl, hide (made_b hlen.out R1.out R2.out R3.out (by simp) KC.out.size (step (Below.refl _ _) _) R4.out (Nat.le_trans KA.out.size (Nat.le_trans (by simp) G2.out)) G3.out G1.out G4.out KD.out KC.out.size (by simp) (Ne.symm (Nat.ne_of_lt G3.out)) ((((((V3.out.set 0 (.slice (some ⟨g, 0, none⟩) j cp)).set 1 (.func (.func nG) #[] cG)).set 2 (.func (.func nC) #[] cC)).set 3 .nilFunc).set 4 .nilFunc).set 5 (.func (.func nL) #[] cL)) (((((((Chg.refl (· = wb.heap.size) wd).set (wb.heap.size) 0 (.slice (some ⟨g, 0, none⟩) j cp) rfl).set (wb.heap.size) 1 (.func (.func nG) #[] cG) rfl).set (wb.heap.size) 2 (.func (.func nC) #[] cC) rfl).set (wb.heap.size) 3 .nilFunc rfl).set (wb.heap.size) 4 .nilFunc rfl).set (wb.heap.size) 5 (.func (.func nL) #[] cL) rfl))⟩)
          | (have hq9 := Y3; exact ⟨_, rfl, hide (made_b hlen.out R1.out R2.out R3.out (Nat.le_refl _) KC.out.size (Below.refl _ _) R4.out (Nat.le_trans KA.out.size (Nat.le_trans (by simp) G2.out)) G3.out G1.out G4.out KD.out KA.out.size Y2.out.lt (by have := G2.out; simp at this; omega) ((((((Y3.out.set 0 (.slice (some ⟨g, 0, none⟩) j cp)).set 1 (.func (.func nG) #[] cG)).set 2 (.func (.func nC) #[] cC)).set 3 .nilFunc).set 4 .nilFunc).set 5 (.func (.func nL) #[] cL)) (((((((Chg.refl (· = wa.heap.size) wd).set (wa.heap.size) 0 (.slice (some ⟨g, 0, none⟩) j cp) rfl).set (wa.heap.size) 1 (.func (.func nG) #[] cG) rfl).set (wa.heap.size) 2 (.func (.func nC) #[] cC) rfl).set (wa.heap.size) 3 .nilFunc rfl).set (wa.heap.size) 4 .nilFunc rfl).set (wa.heap.size) 5 (.func (.func nL) #[] cL) rfl))⟩)
          | (have hq9 := Z3; exact ⟨_, rfl, hide (made_b hlen.out R1.out R2.out R3.out (Nat.le_refl _) KC.out.size (Below.refl _ _) R4.out (Nat.le_trans KA.out.size (Nat.le_trans (by simp) G2.out)) G3.out G1.out G4.out KD.out KR.out.size Z2.out.lt (by have := G2.out; have := Z1.out.lt; omega) ((((((Z3.out.set 0 (.slice (some ⟨g, 0, none⟩) j cp)).set 1 (.func (.func nG) #[] cG)).set 2 (.func (.func nC) #[] cC)).set 3 .nilFunc).set 4 .nilFunc).set 5 (.func (.func nL) #[] cL)) (((((((Chg.refl (· = wr.heap.size) wd).set (wr.heap.size) 0 (.slice (some ⟨g, 0, none⟩) j cp) rfl).set (wr.heap.size) 1 (.func (.func nG) #[] cG) rfl).set (wr.heap.size) 2 (.func (.func nC) #[] cC) rfl).set (wr.heap.size) 3 .nilFunc rfl).set (wr.heap.size) 4 .nilFunc rfl).set (wr.heap.size) 5 (.func (.func nL) #[] cL) rfl))⟩)
          | (exact ⟨_, rfl, hide (made_a hlen.out R1.out R2.out R3.out (Nat.le_refl _) KC.out.size (Below.refl _ _) R4.out (Nat.le_trans KA.out.size (Nat.le_trans (by simp) G2.out)) G3.out G1.out G4.out KD.out)⟩))
      case rest =>
        obtain ⟨X, rfl, hmade⟩ := hcut
        obtain ⟨F, S, m, g, cp, hX, hR, hs, hm, hg1, hg2, hg3, hg4, hg5, hK⟩ := hmade.out
        clear hmade KR
        obtain ⟨nL, cL, hla, HL⟩ := hR.la
        have HGi := hide hR.gi
        have HG1 := hide (fun w' B M hf => goOn_any hR.stay F stG last nL cL hla HL xs (.inr hR.gi) MK.out.nbG 0 false 0 0 false s0 w' B M hf)
        have e0 : wc.cell? ⟨X, 0, none⟩ = some (.slice (some ⟨g, 0, none⟩) j cp) := by rw [← hlen.out]; exact hX.at' 0
        have e1 : wc.cell? ⟨X, 1, none⟩ = some F.gi := hX.at' 1
        have e2 : wc.cell? ⟨X, 2, none⟩ = some F.ce := hX.at' 2
        have e3 : wc.cell? ⟨X, 3, none⟩ = some F.be := hX.at' 3
        have e4 : wc.cell? ⟨X, 4, none⟩ = some F.se := hX.at' 4
        have e5 : wc.cell? ⟨X, 5, none⟩ = some F.la := hX.at' 5
        have hnew := hide (Blk.new wc (fC (.slice (some ⟨g, 0, none⟩) j cp) F.gi F.ce F.be F.se F.la (.slice (some ⟨g, 0, none⟩) j cp) 0 false 0 0 false 0 0 no) 79)
        have K9 := hide (step (Below.refl wc.heap.size wc) (.cells (fC (.slice (some ⟨g, 0, none⟩) j cp) F.gi F.ce F.be F.se F.la (.slice (some ⟨g, 0, none⟩) j cp) 0 false 0 0 false 0 0 no) 79))
        replace hR := hide hR
        replace hs := hide hs
        replace hm := hide hm
        replace hg1 := hide hg1
        replace hg2 := hide hg2
        replace hg3 := hide hg3
        replace hg4 := hide hg4
        replace hg5 := hide hg5
        replace hK := hide hK
        clear hX HL hla
        go_wp2_with fail
        have hfld : Fld S F (wc.alloc (.cells (fC (.slice (some ⟨g, 0, none⟩) j cp) F.gi F.ce F.be F.se F.la (.slice (some ⟨g, 0, none⟩) j cp) 0 false 0 0 false 0 0 no) 79)) wc.heap.size (fun k => k = wc.heap.size ∨ m k ∨ k = g) xs 0 false 0 0 false s0 :=
          ⟨m, _, _, j, cp, hnew.out, hlen.out.symm, ⟨by rw [← hlen.out]; exact hg4.out, hlj.out, by decide⟩, .inr ⟨g, 0, rfl, ⟨.inr (.inr rfl), hg3.out, Nat.ne_of_lt hg2.out⟩, fun i x hx => T9.range_of_block (hg5.out i x hx) (K9.out.block g hg2.out)⟩, hok.out, sm_of hR.out.stay hs.out K9.out, blk_low hR.out.stay hs.out (Nat.le_refl _), .inl rfl, fun k hk => .inr (.inl hk), fun k hk => by
            rcases hk with rfl | h | rfl
            · simp
            · exact Nat.lt_of_lt_of_le (hR.out.stay.lt hs.out k h) K9.out.size
            · exact Nat.lt_of_lt_of_le hg2.out K9.out.size⟩
        refine (HG1.out _ _ _ hfld).mono ?_
        rintro e w9 ⟨rfl, M9, k1, k2, k3⟩
        go_wp2_with fail
        go_ret2
        refine ⟨wc.heap.size, S, F, M9, rfl, hR.out, k1, fun k hk => ?_, ?_⟩
        · rcases k2 k hk with h | h
          · rcases h with rfl | h | rfl
            · exact hK.out.size
            · exact hm.out k h
            · exact hg1.out
          · exact Nat.le_trans hK.out.size (Nat.le_trans K9.out.size h)
        · have q1 : Below w.heap.size w (wc.alloc (.cells (fC (.slice (some ⟨g, 0, none⟩) j cp) F.gi F.ce F.be F.se F.la (.slice (some ⟨g, 0, none⟩) j cp) 0 false 0 0 false 0 0 no) 79)) := step hK.out _
          exact ⟨k3.os.trans q1.os, k3.tape.trans q1.tape, k3.output.trans q1.output, Nat.le_trans q1.size k3.size, fun k hk => (k3.block k (Nat.lt_of_lt_of_le hk q1.size) (fun e => by rcases e with rfl | h | rfl; exact absurd hK.out.size (Nat.not_le_of_lt hk); exact absurd (hm.out k h) (Nat.not_le_of_lt hk); exact absurd hg1.out (Nat.not_le_of_lt hk))).trans (q1.block k hk)⟩
end Go.Proofs.YtnpdkojhlgchlaaGreatDoor
