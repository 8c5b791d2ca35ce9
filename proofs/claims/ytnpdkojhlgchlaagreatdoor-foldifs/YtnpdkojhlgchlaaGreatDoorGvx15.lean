/- Package fold's Give for whatever rule, also where it wants the place beside. Proved of the Go text. -/
import Derived.Test.YtnpdkojhlgchlaaGreatDoorGive15
import Derived.Test.YtnpdkojhlgchlaaGreatDoorTot15
import Derived.Deep.RegionHeld
namespace Go.Proofs.YtnpdkojhlgchlaaGreatDoor
open Go.RowKit Go.Sort
open T9 (Blk Chg)
set_option linter.unusedVariables false

/-- What a rule's function keeps to, of values of a class. -/
structure DoesQ {σ : Type} (Q : σ → Va → Prop) (S : σ → (Nat → Prop) → World → Prop) (st : σ → Va → Stp × σ) (n : Nat) (caps : Array Value) : Prop where
  call : ∀ s m x w, S s m w → VaOk x → Q s x → Calls Tryz.prog n (#[x.v] ++ caps) w fun e w' => e = .returned (stV (st s x).1) ∧ ∃ m', S (st s x).2 m' w' ∧ Grw m m' w ∧ Chg m w w'
  ent : ∀ args w, (callFunc n args).run Tryz.prog w = .ok (.enter n args) w
theorem Does.q {σ : Type} {S : σ → (Nat → Prop) → World → Prop} {st : σ → Va → Stp × σ} {n : Nat} {caps : Array Value} (h : Does S st n caps) (Q : σ → Va → Prop) : DoesQ Q S st n caps := ⟨fun s m x w a b _ => h.call s m x w a b, h.ent⟩
/-- Which place lies beside another one. -/
structure BesIs {σ : Type} (S : σ → (Nat → Prop) → World → Prop) (bf : Int → Int → Int × Int) (n : Nat) (caps : Array Value) : Prop where
  call : ∀ s m r c w, S s m w → Calls Tryz.prog n (#[.agg #[.int .i64 r, .int .i64 c]] ++ caps) w fun e w' => e = .returned (.agg #[.int .i64 (bf r c).1, .int .i64 (bf r c).2]) ∧ Below w.heap.size w w'
  ent : ∀ args w, (callFunc n args).run Tryz.prog w = .ok (.enter n args) w
/-- Where a fold stands behind a value. -/
def givC {σ : Type} (stG : σ → Va → Stp × σ) (last : σ → Va) (bf : Int → Int → Int × Int) (rest : List Ag) (k : Nat) (r c : Int) : Stp × σ → Fs σ
  | (.ends y, _) => .over y
  | (.on, s') => goOn stG last rest k s'
  | (.bes, s') => .wait rest k (bf r c).1 (bf r c).2 true s'
theorem fld_bes {σ : Type} {S : σ → (Nat → Prop) → World → Prop} (hS : Stay S) {F : Fns} {w : World} {B : Nat} {M : Nat → Prop} {rest : List Ag} {k : Nat} {wt : Bool} {r c : Int} {bs : Bool} {s : σ} (h : Fld S F w B M rest k wt r c bs s) (r' c' : Int) :
    Fld S F (((w.setCell ⟨B, 9, none⟩ (.int .i64 r')).setCell ⟨B, 10, none⟩ (.int .i64 c')).setCell ⟨B, 11, none⟩ (.bool true)) B M rest k wt r' c' true s ∧ Chg (· = B) w (((w.setCell ⟨B, 9, none⟩ (.int .i64 r')).setCell ⟨B, 10, none⟩ (.int .i64 c')).setCell ⟨B, 11, none⟩ (.bool true)) := by
  obtain ⟨m, th, a, len, cap, h1, h2, h3, h4, h5, h6, h7, h8, h9, h10⟩ := h
  have hc := (((Chg.refl (· = B) w).set B 9 (.int .i64 r') rfl).set B 10 (.int .i64 c') rfl).set B 11 (.bool true) rfl
  refine ⟨⟨m, th, a, len, cap, ((h1.set 9 (.int .i64 r')).set 10 (.int .i64 c')).set 11 (.bool true), h2, h3, h4.move (fun k hk => ⟨hk, hc.block k (h10 k hk.1) hk.2.2⟩), h5, hS.same h6 (fun k hk => hc.block k (hS.lt h6 k hk) (fun e => h7 (e ▸ hk))), h7, h8, h9, fun k hk => Nat.lt_of_lt_of_le (h10 k hk) hc.size⟩, hc⟩
set_option maxHeartbeats 2000000 in
set_option maxRecDepth 100000 in
theorem giveC {σ : Type} {S : σ → (Nat → Prop) → World → Prop} (hS : Stay S) (F : Fns) (Q : σ → Va → Prop) (stG stC : σ → Va → Stp × σ) (bf : Int → Int → Int × Int) (last : σ → Va) (nL : Nat) (capsL : Array Value) (hla : F.la = .func (.func nL) #[] capsL) (HL : Ends S last nL capsL)
    (nC : Nat) (capsC : Array Value) (hce : F.ce = .func (.func nC) #[] capsC) (HC : DoesQ Q S stC nC capsC) (HBe : (∀ s x, (stC s x).1 ≠ .bes) ∨ ∃ nB cB, F.be = .func (.func nB) #[] cB ∧ BesIs S bf nB cB)
    (rest : List Ag) (HG : (∀ a ∈ rest, a.is = true) ∨ ∃ nG capsG, F.gi = .func (.func nG) #[] capsG ∧ Does S stG nG capsG) (hnb : ∀ s x, (stG s x).1 ≠ .bes) (k : Nat) (r c : Int) (s : σ) (w : World) (B : Nat) (M : Nat → Prop) (hf : Fld S F w B M rest k true r c false s) (x0 x1 : Int) (x2 : ByteArray) (hx : VaOk ⟨x0, x1, x2⟩) (hq : Q s ⟨x0, x1, x2⟩) :
    Calls Tryz.prog 14 #[.pointer (some ⟨B, 0, none⟩), vV x0 x1 x2] w fun e w' => e = .returned (.int .i64 0) ∧ ∃ M', FoldAt S F w' B M' (givC stG last bf rest k r c (stC s ⟨x0, x1, x2⟩)) ∧ Grw M M' w ∧ Chg M w w' := by
  have HM := vmay_yes hx.1
  have hent := HC.ent
  have HG1 := hide (fun s' w' M' (h : Fld S F w' B M' rest k true r c false s') => goOn_any hS F stG last nL capsL hla HL rest HG hnb k true r c false s' w' B M' h)
  replace hS := hide hS
  replace HC := hide HC
  replace HBe := hide HBe
  replace hx := hide hx
  clear hnb hla HL HG
  have K1 := hide (step (Below.refl w.heap.size w) (vO x0 x1 x2))
  have X1 := hide (Blk.new w #[.int .i64 x0, .int .i64 x1, .string x2] 31)
  obtain ⟨th, rst, hb⟩ := fld_blk hf
  have b8 : (w.alloc (vO x0 x1 x2)).cell? ⟨B, 8, none⟩ = some (.bool true) := (hb.alloc _).at' 8
  replace hf := hide hf
  clear hb
  go_enter Tryz.func14, Tryz.ntmps14
  go_wp2_with fail
  refine (HM.out _).mono ?_
  rintro e w2 ⟨rfl, hb2⟩
  have K2 := hide (next K1.out hb2)
  have X2 := hide (X1.out.keep hb2)
  have hf2 := hide (hf.out.keep hS.out K2.out)
  have hXn : Hid (¬ M w.heap.size) := hide (fun e => Nat.lt_irrefl _ ((fld_MB hf.out).2 _ e))
  clear hb2 K1 X1 b8 HM
  obtain ⟨th2, rst2, hb⟩ := fld_blk hf2.out
  have b2 : w2.cell? ⟨B, 2, none⟩ = some (.func (.func nC) #[] capsC) := by rw [← hce]; exact hb.at' 2
  have b11 : w2.cell? ⟨B, 11, none⟩ = some (.bool false) := hb.at' 11
  have v0 : w2.cell? ⟨w.heap.size, 0, none⟩ = some (.int .i64 x0) := X2.out.at' 0
  have v1 : w2.cell? ⟨w.heap.size, 1, none⟩ = some (.int .i64 x1) := X2.out.at' 1
  have v2 : w2.cell? ⟨w.heap.size, 2, none⟩ = some (.string x2) := X2.out.at' 2
  obtain ⟨m, hs2, hnB, hcall⟩ := fld_call hS.out hf2.out
  have HC1 := hide (HC.out.call s m ⟨x0, x1, x2⟩ w2 hs2 hx.out hq)
  have hcall := hide hcall
  clear hb
  obtain ⟨p, hp⟩ : ∃ p, stC s ⟨x0, x1, x2⟩ = p := ⟨_, rfl⟩
  rw [hp] at HC1
  replace hp := hide hp
  obtain ⟨p1, s2⟩ := p
  have hc0 : Hid (Chg M w w2) := hide (Chg.of_below K2.out)
  cases p1 with
  | bes =>
    obtain ⟨nB, cB, hbe, HB⟩ : ∃ nB cB, F.be = .func (.func nB) #[] cB ∧ BesIs S bf nB cB := by
      rcases HBe.out with h | h
      · have := h s ⟨x0, x1, x2⟩
        rw [hp.out] at this
        exact absurd rfl this
      · exact h
    have hentB := HB.ent
    replace HB := hide HB
    go_wp2_with fail
    refine HC1.out.mono ?_
    rintro e w3 ⟨rfl, m', h1, h2, h3⟩
    obtain ⟨g1, g2, g3⟩ := hcall.out w3 m' s2 h1 h2 h3
    have g1 := g1.keep hS.out (step (Below.refl w3.heap.size w3) (stO true false 0 0 no))
    have c1 := g3.alloc (stO true false 0 0 no)
    obtain ⟨m9, hs9, _, _⟩ := fld_call hS.out g1
    clear b2 b11 v0 v1 v2 h1 h2 h3 hent
    replace g2 := hide g2
    simp only [stV]
    go_upto_region 13 with fail
    obtain ⟨wz, hwz⟩ : ∃ wz, w3.alloc (.cells #[.bool true, .bool false, .int .i64 0, .int .i64 0, .string no] 82) = wz := ⟨_, rfl⟩
    simp only [stO] at g1 c1 hs9
    rw [hwz] at g1 c1 hs9 ⊢
    clear hwz g3
    obtain ⟨th4, rst4, hb4⟩ := fld_blk g1
    rw [hbe] at hb4
    have e3 : wz.cell? ⟨B, 3, none⟩ = some (.func (.func nB) #[] cB) := hb4.at' 3
    have e9 : wz.cell? ⟨B, 9, none⟩ = some (.int .i64 r) := hb4.at' 9
    have e10 : wz.cell? ⟨B, 10, none⟩ = some (.int .i64 c) := hb4.at' 10
    have HB1 := hide (fun w' (hb : Below wz.heap.size wz w') => HB.out.call s2 m9 r c w' (sm_of hS.out hs9 hb))
    replace g1 := hide g1
    replace c1 := hide c1
    replace hb4 := hide hb4
    clear hs9 HB hbe
    go_region_with (first | (refine (HB1.out _ (by first | exact Below.refl _ _ | exact (Below.refl _ _).drew)).mono ?_; rintro e w5 ⟨rfl, hb5⟩; have g5 := hide (g1.out.keep hS.out (next (Below.refl _ _).drew hb5)); have hb6 := hide (T9.Blk.keep (drewB hb4.out) hb5); have z3 : w5.cell? ⟨B, 3, none⟩ = some (.func (.func nB) #[] cB) := hb6.out.at' 3; have z9 : w5.cell? ⟨B, 9, none⟩ = some (.int .i64 r) := hb6.out.at' 9; have z10 : w5.cell? ⟨B, 10, none⟩ = some (.int .i64 c) := hb6.out.at' 10; have z11 : w5.cell? ⟨B, 11, none⟩ = some (.bool false) := hb6.out.at' 11; have zf := hb6.out.fr; have c5 := hide (c1.out.trans (Chg.of_below (next (Below.refl wz.heap.size wz).drew hb5))); clear hb5))
    all_goals (try (go_wp2_with fail))
    all_goals
      go_ret
      obtain ⟨f1, f2⟩ := fld_bes hS.out g5.out (bf r c).1 (bf r c).2
      have hMB := (fld_MB hf.out).1
      refine ⟨rfl, _, by rw [hp.out]; exact f1, fun j hj => ?_, hc0.out.trans (c5.out.trans (chg_of f2 (fun k e => e ▸ hMB)))⟩
      rcases g2.out j hj with h | h
      · exact .inl h
      · exact .inr (Nat.le_trans K2.out.size h)
  | on =>
    go_wp2_with fail
    refine HC1.out.mono ?_
    rintro e w3 ⟨rfl, m', h1, h2, h3⟩
    obtain ⟨g1, g2, g3⟩ := hcall.out w3 m' s2 h1 h2 h3
    have g1 := hide (g1.keep hS.out (step (Below.refl w3.heap.size w3) (stO false false 0 0 no)))
    have c1 := hide (g3.alloc (stO false false 0 0 no))
    clear b2 b11 v0 v1 v2 h1 h2 h3
    replace g2 := hide g2
    replace g3 := hide g3
    simp only [stV]
    go_wp2_with fail
    refine (HG1.out s2 _ _ g1.out).mono ?_
    rintro e w4 ⟨rfl, M4, k1, k2, k3⟩
    have k1 := hide k1
    have k2 := hide k2
    have k3 := hide k3
    go_wp2_with fail
    go_ret
    have q0 : Grw M M4 w := by
      intro j hj
      rcases k2.out j hj with h | h
      · rcases g2.out j h with h | h
        · exact .inl h
        · exact .inr (Nat.le_trans K2.out.size h)
      · exact .inr (Nat.le_trans K2.out.size (Nat.le_trans c1.out.size h))
    refine ⟨rfl, M4, by rw [hp.out]; exact k1.out, q0, ?_⟩
    have c2 : Chg M w (w3.alloc (stO false false 0 0 no)) := hc0.out.trans c1.out
    exact ⟨k3.out.os.trans c2.os, k3.out.tape.trans c2.tape, k3.out.output.trans c2.output, Nat.le_trans c2.size k3.out.size, fun j hj hn => (k3.out.block j (Nat.lt_of_lt_of_le hj c2.size) (fun e => by rcases g2.out j e with h | h; exact hn h; have := K2.out.size; omega)).trans (c2.block j hj hn)⟩
  | ends y =>
    obtain ⟨y0, y1, y2⟩ := y
    go_wp2_with fail
    refine HC1.out.mono ?_
    rintro e w3 ⟨rfl, m', h1, h2, h3⟩
    obtain ⟨g1, g2, g3⟩ := hcall.out w3 m' s2 h1 h2 h3
    have g1 := hide (g1.keep hS.out (step (Below.refl w3.heap.size w3) (stO false true y0 y1 y2)))
    have c1 := hide (g3.alloc (stO false true y0 y1 y2))
    clear b2 b11 v0 v1 v2 h1 h2 h3
    replace g2 := hide g2
    replace g3 := hide g3
    obtain ⟨th4, rst4, hb4⟩ := fld_blk g1.out
    have hb4 := hide hb4
    simp only [stV]
    go_wp2_with fail
    refine (finish_any hb4.out y0 y1 y2).mono ?_
    rintro e w4 ⟨rfl, k1, k3⟩
    have k1 := hide k1
    have k3 := hide k3
    go_wp2_with fail
    go_ret
    have hMB := (fld_MB hf.out).1
    have c2 : Chg M w (w3.alloc (stO false true y0 y1 y2)) := hc0.out.trans c1.out
    have c3 : Chg M w w4 := c2.trans (chg_of k3.out (fun k e => e ▸ hMB))
    rw [hp.out]
    exact ⟨rfl, M, ⟨k1.out, hMB, fun j hj => Nat.lt_of_lt_of_le ((fld_MB hf.out).2 j hj) c3.size⟩, Grw.refl _ _, c3⟩
set_option maxHeartbeats 2000000 in
set_option maxRecDepth 100000 in
theorem giveS {σ : Type} {S : σ → (Nat → Prop) → World → Prop} (hS : Stay S) (F : Fns) (Q : σ → Va → Prop) (stG stC : σ → Va → Stp × σ) (last : σ → Va) (nL : Nat) (capsL : Array Value) (hla : F.la = .func (.func nL) #[] capsL) (HL : Ends S last nL capsL)
    (nC : Nat) (capsC : Array Value) (nC0 : Nat) (cC0 : Array Value) (hce0 : F.ce = .func (.func nC0) #[] cC0) (hce : F.se = .func (.func nC) #[] capsC) (HC : DoesQ Q S stC nC capsC)
    (rest : List Ag) (HG : (∀ a ∈ rest, a.is = true) ∨ ∃ nG capsG, F.gi = .func (.func nG) #[] capsG ∧ Does S stG nG capsG) (hnb : ∀ s x, (stG s x).1 ≠ .bes) (k : Nat) (r c : Int) (s : σ) (w : World) (B : Nat) (M : Nat → Prop) (hf : Fld S F w B M rest k true r c true s) (x0 x1 : Int) (x2 : ByteArray) (hx : VaOk ⟨x0, x1, x2⟩) (hq : Q s ⟨x0, x1, x2⟩) (hcb : (stC s ⟨x0, x1, x2⟩).1 ≠ .bes) :
    Calls Tryz.prog 14 #[.pointer (some ⟨B, 0, none⟩), vV x0 x1 x2] w fun e w' => e = .returned (.int .i64 0) ∧ ∃ M', FoldAt S F w' B M' (giv stG last rest k (stC s ⟨x0, x1, x2⟩)) ∧ Grw M M' w ∧ Chg M w w' := by
  have HM := vmay_yes hx.1
  have hent := HC.ent
  have HG1 := hide (fun s' w' M' (h : Fld S F w' B M' rest k true r c true s') => goOn_any hS F stG last nL capsL hla HL rest HG hnb k true r c true s' w' B M' h)
  replace hS := hide hS
  replace HC := hide HC
  replace hx := hide hx
  clear hnb hla HL HG
  have K1 := hide (step (Below.refl w.heap.size w) (vO x0 x1 x2))
  have X1 := hide (Blk.new w #[.int .i64 x0, .int .i64 x1, .string x2] 31)
  obtain ⟨th, rst, hb⟩ := fld_blk hf
  have b8 : (w.alloc (vO x0 x1 x2)).cell? ⟨B, 8, none⟩ = some (.bool true) := (hb.alloc _).at' 8
  replace hf := hide hf
  clear hb
  go_enter Tryz.func14, Tryz.ntmps14
  go_wp2_with fail
  refine (HM.out _).mono ?_
  rintro e w2 ⟨rfl, hb2⟩
  have K2 := hide (next K1.out hb2)
  have X2 := hide (X1.out.keep hb2)
  have hf2 := hide (hf.out.keep hS.out K2.out)
  have hXn : Hid (¬ M w.heap.size) := hide (fun e => Nat.lt_irrefl _ ((fld_MB hf.out).2 _ e))
  clear hb2 K1 X1 b8 HM
  obtain ⟨th2, rst2, hb⟩ := fld_blk hf2.out
  have b2 : w2.cell? ⟨B, 2, none⟩ = some (.func (.func nC0) #[] cC0) := by rw [← hce0]; exact hb.at' 2
  have b4 : w2.cell? ⟨B, 4, none⟩ = some (.func (.func nC) #[] capsC) := by rw [← hce]; exact hb.at' 4
  have b11 : w2.cell? ⟨B, 11, none⟩ = some (.bool true) := hb.at' 11
  have v0 : w2.cell? ⟨w.heap.size, 0, none⟩ = some (.int .i64 x0) := X2.out.at' 0
  have v1 : w2.cell? ⟨w.heap.size, 1, none⟩ = some (.int .i64 x1) := X2.out.at' 1
  have v2 : w2.cell? ⟨w.heap.size, 2, none⟩ = some (.string x2) := X2.out.at' 2
  obtain ⟨m, hs2, hnB, hcall⟩ := fld_call hS.out hf2.out
  have HC1 := hide (HC.out.call s m ⟨x0, x1, x2⟩ w2 hs2 hx.out hq)
  have hcall := hide hcall
  clear hb
  obtain ⟨p, hp⟩ : ∃ p, stC s ⟨x0, x1, x2⟩ = p := ⟨_, rfl⟩
  rw [hp] at HC1 hcb
  replace hp := hide hp
  obtain ⟨p1, s2⟩ := p
  have hc0 : Hid (Chg M w w2) := hide (Chg.of_below K2.out)
  cases p1 with
  | bes => exact absurd rfl hcb
  | on =>
    go_wp2_with fail
    refine HC1.out.mono ?_
    rintro e w3 ⟨rfl, m', h1, h2, h3⟩
    obtain ⟨g1, g2, g3⟩ := hcall.out w3 m' s2 h1 h2 h3
    have g1 := hide (g1.keep hS.out (step (Below.refl w3.heap.size w3) (stO false false 0 0 no)))
    have c1 := hide (g3.alloc (stO false false 0 0 no))
    clear b2 b4 b11 v0 v1 v2 h1 h2 h3
    replace g2 := hide g2
    replace g3 := hide g3
    simp only [stV]
    go_wp2_with fail
    refine (HG1.out s2 _ _ g1.out).mono ?_
    rintro e w4 ⟨rfl, M4, k1, k2, k3⟩
    have k1 := hide k1
    have k2 := hide k2
    have k3 := hide k3
    go_wp2_with fail
    go_ret
    have q0 : Grw M M4 w := by
      intro j hj
      rcases k2.out j hj with h | h
      · rcases g2.out j h with h | h
        · exact .inl h
        · exact .inr (Nat.le_trans K2.out.size h)
      · exact .inr (Nat.le_trans K2.out.size (Nat.le_trans c1.out.size h))
    refine ⟨rfl, M4, by rw [hp.out]; exact k1.out, q0, ?_⟩
    have c2 : Chg M w (w3.alloc (stO false false 0 0 no)) := hc0.out.trans c1.out
    exact ⟨k3.out.os.trans c2.os, k3.out.tape.trans c2.tape, k3.out.output.trans c2.output, Nat.le_trans c2.size k3.out.size, fun j hj hn => (k3.out.block j (Nat.lt_of_lt_of_le hj c2.size) (fun e => by rcases g2.out j e with h | h; exact hn h; have := K2.out.size; omega)).trans (c2.block j hj hn)⟩
  | ends y =>
    obtain ⟨y0, y1, y2⟩ := y
    go_wp2_with fail
    refine HC1.out.mono ?_
    rintro e w3 ⟨rfl, m', h1, h2, h3⟩
    obtain ⟨g1, g2, g3⟩ := hcall.out w3 m' s2 h1 h2 h3
    have g1 := hide (g1.keep hS.out (step (Below.refl w3.heap.size w3) (stO false true y0 y1 y2)))
    have c1 := hide (g3.alloc (stO false true y0 y1 y2))
    clear b2 b4 b11 v0 v1 v2 h1 h2 h3
    replace g2 := hide g2
    replace g3 := hide g3
    obtain ⟨th4, rst4, hb4⟩ := fld_blk g1.out
    have hb4 := hide hb4
    simp only [stV]
    go_wp2_with fail
    refine (finish_any hb4.out y0 y1 y2).mono ?_
    rintro e w4 ⟨rfl, k1, k3⟩
    have k1 := hide k1
    have k3 := hide k3
    go_wp2_with fail
    go_ret
    have hMB := (fld_MB hf.out).1
    have c2 : Chg M w (w3.alloc (stO false true y0 y1 y2)) := hc0.out.trans c1.out
    have c3 : Chg M w w4 := c2.trans (chg_of k3.out (fun k e => e ▸ hMB))
    rw [hp.out]
    exact ⟨rfl, M, ⟨k1.out, hMB, fun j hj => Nat.lt_of_lt_of_le ((fld_MB hf.out).2 j hj) c3.size⟩, Grw.refl _ _, c3⟩
end Go.Proofs.YtnpdkojhlgchlaaGreatDoor
