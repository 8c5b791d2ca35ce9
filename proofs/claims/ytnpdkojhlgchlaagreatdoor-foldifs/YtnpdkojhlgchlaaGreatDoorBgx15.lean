/- Package fold's Begin: a fold at its beginning, for whatever makes its rule, of any shape. Proved of the Go text. -/
import Derived.Test.YtnpdkojhlgchlaaGreatDoorBeg15
import Derived.Test.YtnpdkojhlgchlaaGreatDoorGvx15
namespace Go.Proofs.YtnpdkojhlgchlaaGreatDoor
open Go.RowKit Go.Sort
open T9 (Blk Chg)
set_option linter.unusedVariables false

/-- What a rule needs to go through its arguments. -/
structure GoR {σ : Type} (S : σ → (Nat → Prop) → World → Prop) (F : Fns) (ys : List Ag) (stG : σ → Va → Stp × σ) (last : σ → Va) : Prop where
  stay : Stay S
  la : ∃ n c, F.la = .func (.func n) #[] c ∧ Ends S last n c
  gi : (∀ a ∈ ys, a.is = true) ∨ ∃ nG cG, F.gi = .func (.func nG) #[] cG ∧ Does S stG nG cG
  one : F.gi.oneCell' = true ∧ F.ce.oneCell' = true ∧ F.be.oneCell' = true ∧ F.se.oneCell' = true ∧ F.la.oneCell' = true
/-- What makes a rule of its arguments: what it goes through, and what is told of its functions. -/
structure MkX {σ : Type} (fn : Nat) (xs ys : List Ag) (s0 : σ) (stG : σ → Va → Stp × σ) (last : σ → Va) (P : (σ → (Nat → Prop) → World → Prop) → Fns → Prop) : Prop where
  call : ∀ w g cap, g < w.heap.size → xs.length ≤ cap → (∀ (j : Nat) (x : Ag), xs[j]? = some x → w.rangeAt g (0 + j * 8) (agL x)) → Calls Tryz.prog fn #[.slice (some ⟨g, 0, none⟩) xs.length cap] w fun e w' => ∃ (F : Fns) (S : σ → (Nat → Prop) → World → Prop) (m : Nat → Prop) (a' : Option Addr) (cap' : Nat), e = .returned (.agg #[.slice a' ys.length cap', F.gi, F.ce, F.be, F.se, F.la]) ∧ GoR S F ys stG last ∧ P S F ∧ S s0 m w' ∧ (∀ k, m k → w.heap.size ≤ k) ∧ ArgsAt w' (fun k => (k = g ∨ w.heap.size ≤ k) ∧ ¬ m k ∧ k < w'.heap.size) a' ys ∧ ys.length ≤ cap' ∧ Below w.heap.size w w'
  ent : ∀ args w, (callFunc fn args).run Tryz.prog w = .ok (.enter fn args) w
  nbG : ∀ s x, (stG s x).1 ≠ .bes
  okY : ∀ a ∈ ys, AgOk a
  lenY : ys.length ≤ 1000000
/-- A rule has been made, and lies in a box. -/
def MadeX {σ : Type} (s0 : σ) (stG : σ → Va → Stp × σ) (last : σ → Va) (P : (σ → (Nat → Prop) → World → Prop) → Fns → Prop) (ys : List Ag) (w wx : World) (X : Nat) : Prop :=
  ∃ (F : Fns) (S : σ → (Nat → Prop) → World → Prop) (m : Nat → Prop) (a' : Option Addr) (cap' : Nat), Blk wx X #[.slice a' ys.length cap', F.gi, F.ce, F.be, F.se, F.la] 74 ∧ GoR S F ys stG last ∧ P S F ∧ S s0 m wx ∧ (∀ k, m k → w.heap.size ≤ k) ∧ ArgsAt wx (fun k => w.heap.size ≤ k ∧ ¬ m k ∧ k < wx.heap.size) a' ys ∧ ys.length ≤ cap' ∧ Below w.heap.size w wx
theorem bel_chg {w w2 w3 : World} {X : Nat} (hb : Below w.heap.size w w2) (hX : w.heap.size ≤ X) (hc : Chg (· = X) w2 w3) : Below w.heap.size w w3 := ⟨hc.os.trans hb.os, hc.tape.trans hb.tape, hc.output.trans hb.output, Nat.le_trans hb.size hc.size, fun k hk => (hc.block k (Nat.lt_of_lt_of_le hk hb.size) (by omega)).trans (hb.block k hk)⟩
theorem madeX_a {σ : Type} {s0 : σ} {stG : σ → Va → Stp × σ} {last : σ → Va} {P : (σ → (Nat → Prop) → World → Prop) → Fns → Prop} {ys : List Ag} {w wc wd : World} {F : Fns} {S : σ → (Nat → Prop) → World → Prop} {m : Nat → Prop} {g cap' : Nat} {a' : Option Addr} (h1 : GoR S F ys stG last) (hP : P S F) (h2 : S s0 m wd) (h3 : ∀ k, m k → wc.heap.size ≤ k) (hA : ArgsAt wd (fun k => (k = g ∨ wc.heap.size ≤ k) ∧ ¬ m k ∧ k < wd.heap.size) a' ys) (hc : ys.length ≤ cap') (hg : w.heap.size ≤ g) (hw : w.heap.size ≤ wc.heap.size) (hK : Below w.heap.size w wd) :
    MadeX s0 stG last P ys w (wd.alloc (.cells #[.slice a' ys.length cap', F.gi, F.ce, F.be, F.se, F.la] 74)) wd.heap.size := by
  have hb : Below wd.heap.size wd (wd.alloc (.cells #[.slice a' ys.length cap', F.gi, F.ce, F.be, F.se, F.la] 74)) := step (Below.refl _ _) _
  refine ⟨F, S, m, a', cap', Blk.new _ _ _, h1, hP, sm_of h1.stay h2 hb, fun k hk => Nat.le_trans hw (h3 k hk), hA.move (fun k hk => ⟨⟨?_, hk.2.1, Nat.lt_of_lt_of_le hk.2.2 hb.size⟩, hb.block k hk.2.2⟩), hc, step hK _⟩
  rcases hk.1 with h | h
  · rw [h]; exact hg
  · exact Nat.le_trans hw h
theorem madeX_b {σ : Type} {s0 : σ} {stG : σ → Va → Stp × σ} {last : σ → Va} {P : (σ → (Nat → Prop) → World → Prop) → Fns → Prop} {ys : List Ag} {w wc wd wx : World} {F : Fns} {S : σ → (Nat → Prop) → World → Prop} {m : Nat → Prop} {g cap' X : Nat} {a' : Option Addr} (h1 : GoR S F ys stG last) (hP : P S F) (h2 : S s0 m wd) (h3 : ∀ k, m k → wc.heap.size ≤ k) (hA : ArgsAt wd (fun k => (k = g ∨ wc.heap.size ≤ k) ∧ ¬ m k ∧ k < wd.heap.size) a' ys) (hcp : ys.length ≤ cap') (hg : w.heap.size ≤ g) (hw : w.heap.size ≤ wc.heap.size) (hK : Below w.heap.size w wd) (hX1 : w.heap.size ≤ X) (hX2 : X < wc.heap.size) (hXg : X ≠ g) (hb : Blk wx X #[.slice a' ys.length cap', F.gi, F.ce, F.be, F.se, F.la] 74) (hc : Chg (· = X) wd wx) :
    MadeX s0 stG last P ys w wx X := by
  refine ⟨F, S, m, a', cap', hb, h1, hP, h1.stay.same h2 (fun k hk => hc.block k (h1.stay.lt h2 k hk) (fun e => by have := h3 k hk; omega)), fun k hk => Nat.le_trans hw (h3 k hk), hA.move (fun k hk => ⟨⟨?_, hk.2.1, Nat.lt_of_lt_of_le hk.2.2 hc.size⟩, hc.block k hk.2.2 ?_⟩), hcp, bel_chg hK hX1 hc⟩
  · rcases hk.1 with h | h
    · rw [h]; exact hg
    · exact Nat.le_trans hw h
  · rcases hk.1 with h | h
    · rw [h]; exact Ne.symm hXg
    · omega
set_option maxHeartbeats 8000000 in
set_option maxRecDepth 100000 in
theorem beginX {σ : Type} (fI : Int) (fn : Nat) (xs ys : List Ag) (s0 : σ) (stG : σ → Va → Stp × σ) (last : σ → Va) (P : (σ → (Nat → Prop) → World → Prop) → Fns → Prop) (MK : MkX fn xs ys s0 stG last P) (nm : ByteArray) (mn mx : Int) (HI : CallIs 20 #[.int .i64 fI] (.tuple #[.agg #[.string nm, .int .i64 6, .int .i64 mn, .int .i64 mx], .int .i64 0])) (HX : ∀ w, (Instr.index 76 (.agg fcatC) (.int .i64 fI)).run Tryz.prog w = .ok (.func (.func fn) #[] #[]) w)
    (hx : 0 < xs.length) (hl : xs.length ≤ 1000) (hmn : mn ≤ (xs.length : Int)) (hmx : (xs.length : Int) ≤ mx ∨ mx = -1) (hok : ∀ a ∈ xs, AgOk a) (a : Option Addr) (cap : Nat) (w : World) (h : ArgsAt w (· < w.heap.size) a xs) :
    Calls Tryz.prog 10 #[.int .i64 fI, .slice a xs.length cap] w fun e w' => ∃ B S F M, e = .returned (.tuple #[.pointer (some ⟨B, 0, none⟩), .int .i64 0]) ∧ P S F ∧ Stay S ∧ FoldAt S F w' B M (goOn stG last ys 0 s0) ∧ (∀ k, M k → w.heap.size ≤ k) ∧ Below w.heap.size w w' := by
  have HT := takes_yes nm 6 mn mx (xs.length : Int) hmn hmx
  have HCl := hide (fun w' cap' (h' : ArgsAt w' (· < w'.heap.size) a xs) => clone_any xs hx (by omega) a cap' (· < w'.heap.size) w' (fun _ h => h) h')
  obtain ⟨b, o, rfl, hb, hrow⟩ : ∃ b o, a = some ⟨b, o, none⟩ ∧ b < w.heap.size ∧ ∀ (j : Nat) (x : Ag), xs[j]? = some x → w.rangeAt b (o + j * 8) (agL x) := by
    rcases h with h | h
    · rw [h] at hx; cases hx
    · exact h
  obtain ⟨len, hlen⟩ : ∃ len, xs.length = len := ⟨_, rfl⟩
  rw [hlen] at hl HT HCl ⊢
  replace hrow := hide hrow
  replace h := hide h
  replace hok := hide hok
  replace hb := hide hb
  replace MK := hide MK
  replace hlen := hide hlen
  replace hx := hide hx
  clear hmn hmx
  go_enter Tryz.func10, Tryz.ntmps10
  go_wp2_with fail
  refine (HI.out _).mono ?_
  rintro e w1 ⟨rfl, hb1⟩
  have K1 := hide (step hb1 (.cells #[.string nm, .int .i64 6, .int .i64 mn, .int .i64 mx] 65))
  go_wp2_with fail
  refine (HT.out _).mono ?_
  rintro e w2 ⟨rfl, hb2⟩
  have K2 := hide (next K1.out hb2)
  clear HI HT hb1 hb2 K1
  go_wp2_with fail
  go_loopw [32] (fun v wr => ∃ j : Nat, j ≤ len ∧ v = .int .i64 (j : Int) ∧ Hid (Below w.heap.size w wr)) (fun v _ => len - (intOf v).toNat)
  case atStart => exact ⟨0, Nat.zero_le _, rfl, K2⟩
  case round =>
    obtain ⟨j, hj, rfl, KR⟩ := hrel
    by_cases hlt : j < len
    · have p0 : (j : Int) < (len : Int) := by omega
      have hj' : j < xs.length := by have := hlen.out; omega
      have hA := T9.range_of_block (hrow.out j _ (List.getElem?_eq_getElem hj')) (KR.out.block b hb.out)
      have oka := hide (may_yes _ (hok.out _ (List.getElem_mem hj')))
      generalize xs[j] = ag at *
      obtain ⟨is, t, l, bb, r0, ⟨vk, vi, vt⟩⟩ := ag
      have a0 : wr.cell? ⟨b, o + j * 8, none⟩ = some (.bool is) := hA 0 _ rfl
      have a1 : wr.cell? ⟨b, o + j * 8 + 1, none⟩ = some (.int .i64 t) := hA 1 _ rfl
      have a2 : wr.cell? ⟨b, o + j * 8 + 2, none⟩ = some (.int .i64 l) := hA 2 _ rfl
      have a3 : wr.cell? ⟨b, o + j * 8 + 3, none⟩ = some (.int .i64 bb) := hA 3 _ rfl
      have a4 : wr.cell? ⟨b, o + j * 8 + 4, none⟩ = some (.int .i64 r0) := hA 4 _ rfl
      have a5 : wr.cell? ⟨b, o + j * 8 + 5, none⟩ = some (.int .i64 vk) := hA 5 _ rfl
      have a6 : wr.cell? ⟨b, o + j * 8 + 6, none⟩ = some (.int .i64 vi) := hA 6 _ rfl
      have a7 : wr.cell? ⟨b, o + j * 8 + 7, none⟩ = some (.string vt) := hA 7 _ rfl
      clear hA hj'
      go_wp2_with fail
      refine (oka.out.out _).mono ?_
      rintro e w3 ⟨rfl, hb3⟩
      have K3 := hide (next (step KR.out _) hb3)
      clear hb3 a0 a1 a2 a3 a4 a5 a6 a7
      go_wp2_with fail
      refine ⟨⟨j + 1, hlt, rfl, K3⟩, ?_⟩
      have h1 : (intOf (.int .i64 ((j : Int) + 1))).toNat = j + 1 := rfl
      have h2 : (intOf (.int .i64 (j : Int))).toNat = j := rfl
      rw [h1, h2]
      omega
    · obtain rfl : j = len := by omega
      go_upto_region 13 with fail
      have hentF := MK.out.ent
      have hlj : Hid (j ≤ 1000000) := hide (by omega)
      clear hl
      have HMC := MK.out.call
      rw [hlen.out] at HMC
      replace HMC := hide HMC
      go_cut [11] from 42 to 47 (fun c wx => ∃ X, c = .pointer (some ⟨X, 0, none⟩) ∧ Hid (MadeX s0 stG last P ys w wx X))
      case first =>
        go_region_held (fun _ => True) (trivial) (first
          | (have hq := KC; refine (HMC.out _ g cp (by first | exact G3.out | exact Nat.lt_of_lt_of_le G3.out (by simp)) G1.out (by first | exact G4.out | exact (fun jj x hx => T9.range_of_block (G4.out jj x hx) (Below.heap_alloc wb _ g G3.out)))).mono ?_; rintro e wd ⟨F, S, m, a', cap', rfl, r1, r6, r2, r3, r5, r7, r4⟩; obtain ⟨o1, o2, o3, o4, o5⟩ := r1.one; have q1 := fun ad md wx => run_store Tryz.prog wx ad F.gi md o1; have q2 := fun ad md wx => run_store Tryz.prog wx ad F.ce md o2; have q3 := fun ad md wx => run_store Tryz.prog wx ad F.be md o3; have q4 := fun ad md wx => run_store Tryz.prog wx ad F.se md o4; have q5 := fun ad md wx => run_store Tryz.prog wx ad F.la md o5; have KD := hide (next (by first | exact KC.out | exact step KC.out _) r4); have R1 := hide r1; have R2 := hide r2; have R3 := hide r3; have R4 := hide r4; have R5 := hide r5; have R6 := hide r6; have R7 := hide r7; (try (have Z3 : Hid (Blk wd wr.heap.size #[.slice none 0 0, .nilFunc, .nilFunc, .nilFunc, .nilFunc, .nilFunc] 74) := hide (T9.Blk.keep Z2.out r4); have z0 : wd.cell? ⟨wr.heap.size, 0, none⟩ = some (.slice none 0 0) := Z3.out.at' 0; have z1 : wd.cell? ⟨wr.heap.size, 1, none⟩ = some (.nilFunc) := Z3.out.at' 1; have z2 : wd.cell? ⟨wr.heap.size, 2, none⟩ = some (.nilFunc) := Z3.out.at' 2; have z3 : wd.cell? ⟨wr.heap.size, 3, none⟩ = some (.nilFunc) := Z3.out.at' 3; have z4 : wd.cell? ⟨wr.heap.size, 4, none⟩ = some (.nilFunc) := Z3.out.at' 4; have z5 : wd.cell? ⟨wr.heap.size, 5, none⟩ = some (.nilFunc) := Z3.out.at' 5; have zf := Z3.out.fr)); (try (have Y3 : Hid (Blk wd wa.heap.size #[.slice none 0 0, .nilFunc, .nilFunc, .nilFunc, .nilFunc, .nilFunc] 74) := hide (T9.Blk.keep Y2.out r4); have z0 : wd.cell? ⟨wa.heap.size, 0, none⟩ = some (.slice none 0 0) := Y3.out.at' 0; have z1 : wd.cell? ⟨wa.heap.size, 1, none⟩ = some (.nilFunc) := Y3.out.at' 1; have z2 : wd.cell? ⟨wa.heap.size, 2, none⟩ = some (.nilFunc) := Y3.out.at' 2; have z3 : wd.cell? ⟨wa.heap.size, 3, none⟩ = some (.nilFunc) := Y3.out.at' 3; have z4 : wd.cell? ⟨wa.heap.size, 4, none⟩ = some (.nilFunc) := Y3.out.at' 4; have z5 : wd.cell? ⟨wa.heap.size, 5, none⟩ = some (.nilFunc) := Y3.out.at' 5; have zf := Y3.out.fr)); (try (have V3 : Hid (Blk wd wb.heap.size #[.slice none 0 0, .nilFunc, .nilFunc, .nilFunc, .nilFunc, .nilFunc] 74) := hide (T9.Blk.keep (Blk.new wb #[.slice none 0 0, .nilFunc, .nilFunc, .nilFunc, .nilFunc, .nilFunc] 74) r4); have z0 : wd.cell? ⟨wb.heap.size, 0, none⟩ = some (.slice none 0 0) := V3.out.at' 0; have z1 : wd.cell? ⟨wb.heap.size, 1, none⟩ = some (.nilFunc) := V3.out.at' 1; have z2 : wd.cell? ⟨wb.heap.size, 2, none⟩ = some (.nilFunc) := V3.out.at' 2; have z3 : wd.cell? ⟨wb.heap.size, 3, none⟩ = some (.nilFunc) := V3.out.at' 3; have z4 : wd.cell? ⟨wb.heap.size, 4, none⟩ = some (.nilFunc) := V3.out.at' 4; have z5 : wd.cell? ⟨wb.heap.size, 5, none⟩ = some (.nilFunc) := V3.out.at' 5; have zf := V3.out.fr)); clear r1 r2 r3 r4 r5 r6 r7)
          | (have hq := KA; refine (HCl.out _ _ (args_below h.out (by first | exact KA.out | exact step KA.out _))).mono ?_; rintro e wb ⟨g, cp, rfl, g1, g2, g3, g4, g5⟩; have KC := hide (next (by first | exact KA.out | exact step KA.out _) g5); have G1 := hide g1; have G2 := hide g2; have G3 := hide g3; have G4 := hide g4; (try (have Z2 : Hid (Blk wb wr.heap.size #[.slice none 0 0, .nilFunc, .nilFunc, .nilFunc, .nilFunc, .nilFunc] 74) := hide (T9.Blk.keep Z1.out g5))); (try (have Y2 : Hid (Blk wb wa.heap.size #[.slice none 0 0, .nilFunc, .nilFunc, .nilFunc, .nilFunc, .nilFunc] 74) := hide (T9.Blk.keep (Blk.new wa #[.slice none 0 0, .nilFunc, .nilFunc, .nilFunc, .nilFunc, .nilFunc] 74) g5))); clear g1 g2 g3 g4 g5)
          | (refine (frows_any _).mono ?_; rintro e wa ⟨rfl, ha⟩; have KA := hide (next (by first | exact KR.out.drew | exact (step KR.out _).drew) ha); (try (have Z1 : Hid (Blk wa wr.heap.size #[.slice none 0 0, .nilFunc, .nilFunc, .nilFunc, .nilFunc, .nilFunc] 74) := hide (T9.Blk.keep (drewB (Blk.new wr #[.slice none 0 0, .nilFunc, .nilFunc, .nilFunc, .nilFunc, .nilFunc] 74)) ha))); clear ha))
        all_goals (go_wp2_with fail)
        all_goals go_meet
        all_goals (first
          | (have hq9 := V3; exact ⟨_, rfl, hide (madeX_b R1.out R6.out R2.out R3.out R5.out R7.out (Nat.le_trans KA.out.size (Nat.le_trans (by simp) G2.out)) (Nat.le_trans KC.out.size (by simp)) KD.out KC.out.size (by simp) (Ne.symm (Nat.ne_of_lt G3.out)) ((((((V3.out.set 0 (.slice a' ys.length cap')).set 1 F.gi).set 2 F.ce).set 3 F.be).set 4 F.se).set 5 F.la) (((((((Chg.refl (· = wb.heap.size) wd).set (wb.heap.size) 0 (.slice a' ys.length cap') rfl).set (wb.heap.size) 1 F.gi rfl).set (wb.heap.size) 2 F.ce rfl).set (wb.heap.size) 3 F.be rfl).set (wb.heap.size) 4 F.se rfl).set (wb.heap.size) 5 F.la rfl))⟩)
          | (have hq9 := Y3; exact ⟨_, rfl, hide (madeX_b R1.out R6.out R2.out R3.out R5.out R7.out (Nat.le_trans KA.out.size (Nat.le_trans (by simp) G2.out)) KC.out.size KD.out KA.out.size Y2.out.lt (by have := G2.out; simp at this; omega) ((((((Y3.out.set 0 (.slice a' ys.length cap')).set 1 F.gi).set 2 F.ce).set 3 F.be).set 4 F.se).set 5 F.la) (((((((Chg.refl (· = wa.heap.size) wd).set (wa.heap.size) 0 (.slice a' ys.length cap') rfl).set (wa.heap.size) 1 F.gi rfl).set (wa.heap.size) 2 F.ce rfl).set (wa.heap.size) 3 F.be rfl).set (wa.heap.size) 4 F.se rfl).set (wa.heap.size) 5 F.la rfl))⟩)
          | (have hq9 := Z3; exact ⟨_, rfl, hide (madeX_b R1.out R6.out R2.out R3.out R5.out R7.out (Nat.le_trans KA.out.size (Nat.le_trans (by simp) G2.out)) KC.out.size KD.out KR.out.size Z2.out.lt (by have := G2.out; have := Z1.out.lt; omega) ((((((Z3.out.set 0 (.slice a' ys.length cap')).set 1 F.gi).set 2 F.ce).set 3 F.be).set 4 F.se).set 5 F.la) (((((((Chg.refl (· = wr.heap.size) wd).set (wr.heap.size) 0 (.slice a' ys.length cap') rfl).set (wr.heap.size) 1 F.gi rfl).set (wr.heap.size) 2 F.ce rfl).set (wr.heap.size) 3 F.be rfl).set (wr.heap.size) 4 F.se rfl).set (wr.heap.size) 5 F.la rfl))⟩)
          | (exact ⟨_, rfl, hide (madeX_a R1.out R6.out R2.out R3.out R5.out R7.out (Nat.le_trans KA.out.size (Nat.le_trans (by simp) G2.out)) KC.out.size KD.out)⟩))
      case rest =>
        obtain ⟨X, rfl, hmade⟩ := hcut
        obtain ⟨F, S, m, a', cap', hX, hR, hPP, hs, hm, hA, hcp, hK⟩ := hmade.out
        clear hmade KR
        obtain ⟨nL, cL, hla, HL⟩ := hR.la
        have HG1 := hide (fun w' B M hf => goOn_any hR.stay F stG last nL cL hla HL ys hR.gi MK.out.nbG 0 false 0 0 false s0 w' B M hf)
        obtain ⟨ly, hly⟩ : ∃ ly, ys.length = ly := ⟨_, rfl⟩
        rw [hly] at hX hcp
        have e0 : wc.cell? ⟨X, 0, none⟩ = some (.slice a' ly cap') := hX.at' 0
        have e1 : wc.cell? ⟨X, 1, none⟩ = some F.gi := hX.at' 1
        have e2 : wc.cell? ⟨X, 2, none⟩ = some F.ce := hX.at' 2
        have e3 : wc.cell? ⟨X, 3, none⟩ = some F.be := hX.at' 3
        have e4 : wc.cell? ⟨X, 4, none⟩ = some F.se := hX.at' 4
        have e5 : wc.cell? ⟨X, 5, none⟩ = some F.la := hX.at' 5
        have hnew := hide (Blk.new wc (fC (.slice a' ly cap') F.gi F.ce F.be F.se F.la (.slice a' ly cap') 0 false 0 0 false 0 0 no) 79)
        have K9 := hide (step (Below.refl wc.heap.size wc) (.cells (fC (.slice a' ly cap') F.gi F.ce F.be F.se F.la (.slice a' ly cap') 0 false 0 0 false 0 0 no) 79))
        have hlY : Hid (ly ≤ 1000000) := hide (by have := MK.out.lenY; omega)
        replace hR := hide hR
        replace hs := hide hs
        replace hm := hide hm
        replace hA := hide hA
        replace hcp := hide hcp
        replace hK := hide hK
        replace hly := hide hly
        replace hPP := hide hPP
        clear hX HL hla
        go_wp2_with fail
        have hfld : Fld S F (wc.alloc (.cells (fC (.slice a' ly cap') F.gi F.ce F.be F.se F.la (.slice a' ly cap') 0 false 0 0 false 0 0 no) 79)) wc.heap.size (fun k => k = wc.heap.size ∨ (w.heap.size ≤ k ∧ k < wc.heap.size)) ys 0 false 0 0 false s0 :=
          ⟨m, _, _, ly, cap', hnew.out, hly.out.symm, ⟨hcp.out, hlY.out, by decide⟩, hA.out.move (fun k hk => ⟨⟨.inr ⟨hk.1, hk.2.2⟩, hk.2.1, Nat.ne_of_lt hk.2.2⟩, K9.out.block k hk.2.2⟩), MK.out.okY, sm_of hR.out.stay hs.out K9.out, blk_low hR.out.stay hs.out (Nat.le_refl _), .inl rfl, fun k hk => .inr ⟨hm.out k hk, hR.out.stay.lt hs.out k hk⟩, fun k hk => by
            rcases hk with rfl | h
            · simp
            · exact Nat.lt_of_lt_of_le h.2 K9.out.size⟩
        refine (HG1.out _ _ _ hfld).mono ?_
        rintro e w9 ⟨rfl, M9, k1, k2, k3⟩
        go_wp2_with fail
        go_ret2
        refine ⟨wc.heap.size, S, F, M9, rfl, hPP.out, hR.out.stay, k1, fun k hk => ?_, ?_⟩
        · rcases k2 k hk with h | h
          · rcases h with rfl | h
            · exact hK.out.size
            · exact h.1
          · exact Nat.le_trans hK.out.size (Nat.le_trans K9.out.size h)
        · have q1 : Below w.heap.size w (wc.alloc (.cells (fC (.slice a' ly cap') F.gi F.ce F.be F.se F.la (.slice a' ly cap') 0 false 0 0 false 0 0 no) 79)) := step hK.out _
          exact ⟨k3.os.trans q1.os, k3.tape.trans q1.tape, k3.output.trans q1.output, Nat.le_trans q1.size k3.size, fun k hk => (k3.block k (Nat.lt_of_lt_of_le hk q1.size) (fun e => by rcases e with rfl | h; exact absurd hK.out.size (Nat.not_le_of_lt hk); exact absurd h.1 (Nat.not_le_of_lt hk))).trans (q1.block k hk)⟩
end Go.Proofs.YtnpdkojhlgchlaaGreatDoor
