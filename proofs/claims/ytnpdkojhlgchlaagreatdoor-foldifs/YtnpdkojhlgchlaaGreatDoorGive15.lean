/- Package fold's Give: a value is handed to a fold that wants one; for whatever rule. Proved of the Go text. -/
import Derived.Test.YtnpdkojhlgchlaaGreatDoorGon15
namespace Go.Proofs.YtnpdkojhlgchlaaGreatDoor
open Go.RowKit Go.Sort
open T9 (Blk Chg)
set_option linter.unusedVariables false

/-- Where a fold stands behind a value. -/
def giv {σ : Type} (stG : σ → Va → Stp × σ) (last : σ → Va) (rest : List Ag) (k : Nat) : Stp × σ → Fs σ
  | (.ends y, _) => .over y
  | (.on, s') => goOn stG last rest k s'
  | (.bes, s') => goOn stG last rest k s'
theorem fld_blk {σ : Type} {S : σ → (Nat → Prop) → World → Prop} {F : Fns} {w : World} {B : Nat} {M : Nat → Prop} {rest : List Ag} {k : Nat} {wt : Bool} {r c : Int} {bs : Bool} {s : σ} (h : Fld S F w B M rest k wt r c bs s) : ∃ th rst, Blk w B (fC th F.gi F.ce F.be F.se F.la rst k wt r c bs 0 0 no) 79 := by
  obtain ⟨m, th, a, len, cap, h1, _⟩ := h
  exact ⟨th, _, h1⟩
theorem fld_MB {σ : Type} {S : σ → (Nat → Prop) → World → Prop} {F : Fns} {w : World} {B : Nat} {M : Nat → Prop} {rest : List Ag} {k : Nat} {wt : Bool} {r c : Int} {bs : Bool} {s : σ} (h : Fld S F w B M rest k wt r c bs s) : M B ∧ ∀ k, M k → k < w.heap.size := by
  obtain ⟨m, th, a, len, cap, h1, h2, h3, h4, h5, h6, h7, h8, h9, h10⟩ := h
  exact ⟨h8, h10⟩
theorem fld_call {σ : Type} {S : σ → (Nat → Prop) → World → Prop} (hS : Stay S) {F : Fns} {w : World} {B : Nat} {M : Nat → Prop} {rest : List Ag} {k : Nat} {wt : Bool} {r c : Int} {bs : Bool} {s : σ} (h : Fld S F w B M rest k wt r c bs s) :
    ∃ m, S s m w ∧ ¬ m B ∧ ∀ w' m' s', S s' m' w' → Grw m m' w → Chg m w w' → Fld S F w' B (fun k => M k ∨ m' k) rest k wt r c bs s' ∧ Grw M (fun k => M k ∨ m' k) w ∧ Chg M w w' := by
  obtain ⟨m, th, a, len, cap, h1, h2, h3, h4, h5, h6, h7, h8, h9, h10⟩ := h
  refine ⟨m, h6, h7, fun w' m' s' hs' hg hc => ⟨⟨m', th, a, len, cap, hc.blk h1 h7, h2, h3, h4.move (fun k hk => ⟨⟨.inl hk.1, fun e => by rcases hg _ e with h | h; exact hk.2.1 h; exact absurd (h10 k hk.1) (Nat.not_lt_of_le h), hk.2.2⟩, hc.block k (h10 k hk.1) hk.2.1⟩), h5, hs', fun e => by rcases hg _ e with h | h; exact h7 h; exact absurd h1.lt (Nat.not_lt_of_le h), .inl h8, fun k hk => .inr hk, fun k hk => by rcases hk with h | h; exact Nat.lt_of_lt_of_le (h10 k h) hc.size; exact hS.lt hs' k h⟩, ?_, chg_of hc h9⟩⟩
  intro k hk
  rcases hk with h | h
  · exact .inl h
  · rcases hg k h with h | h
    · exact .inl (h9 k h)
    · exact .inr h
set_option maxHeartbeats 1000000 in
set_option maxRecDepth 100000 in
theorem give_over {w : World} {B : Nat} {x : Va} (h : Ovr w B x) (k i : Int) (t : ByteArray) : Calls Tryz.prog 14 #[.pointer (some ⟨B, 0, none⟩), vV k i t] w fun e w' => e = .returned (.int .i64 25) ∧ Below w.heap.size w w' := by
  have b8 : ∀ o, (w.alloc o).cell? ⟨B, 8, none⟩ = some (.bool false) := fun o => (Blk.alloc h o).at' 8
  go_enter Tryz.func14, Tryz.ntmps14
  go_wp2_with fail
  go_ret
  exact ⟨rfl, by go_grown⟩
set_option maxHeartbeats 2000000 in
set_option maxRecDepth 100000 in
theorem give_ok {σ : Type} {S : σ → (Nat → Prop) → World → Prop} (hS : Stay S) (F : Fns) (stG stC : σ → Va → Stp × σ) (last : σ → Va) (nL : Nat) (capsL : Array Value) (hla : F.la = .func (.func nL) #[] capsL) (HL : Ends S last nL capsL)
    (nC : Nat) (capsC : Array Value) (hce : F.ce = .func (.func nC) #[] capsC) (HC : Does S stC nC capsC)
    (rest : List Ag) (HG : (∀ a ∈ rest, a.is = true) ∨ ∃ nG capsG, F.gi = .func (.func nG) #[] capsG ∧ Does S stG nG capsG) (hnb : ∀ s x, (stG s x).1 ≠ .bes) (k : Nat) (r c : Int) (s : σ) (w : World) (B : Nat) (M : Nat → Prop) (hf : Fld S F w B M rest k true r c false s) (x0 x1 : Int) (x2 : ByteArray) (hx : VaOk ⟨x0, x1, x2⟩) (hcb : (stC s ⟨x0, x1, x2⟩).1 ≠ .bes) :
    Calls Tryz.prog 14 #[.pointer (some ⟨B, 0, none⟩), vV x0 x1 x2] w fun e w' => e = .returned (.int .i64 0) ∧ ∃ M', FoldAt S F w' B M' (giv stG last rest k (stC s ⟨x0, x1, x2⟩)) ∧ Grw M M' w ∧ Chg M w w' := by
  have HM := vmay_yes hx.1
  have hent := HC.ent
  have HG1 := hide (fun s' w' M' (h : Fld S F w' B M' rest k true r c false s') => goOn_any hS F stG last nL capsL hla HL rest HG hnb k true r c false s' w' B M' h)
  replace hS := hide hS
  replace HC := hide HC
  replace hx := hide hx
  clear hnb hla HL HG
  have K1 := hide (step (Below.refl w.heap.size w) (vO x0 x1 x2))
  have X1 := hide (Blk.new w #[.int .i64 x0, .int .i64 x1, .string x2] 31)
  obtain ⟨th, rst, hb⟩ := fld_blk hf
  have b8 : (w.alloc (vO x0 x1 x2)).cell? ⟨B, 8, none⟩ = some (.bool true) := (hb.alloc _).at' 8
  replace hf := hide hf
  clear hb
  go_enter Tryz.func14, Tryz.ntmps14
  go_wp2_with fail
  refine (HM.out _).mono ?_
  rintro e w2 ⟨rfl, hb2⟩
  have K2 := hide (next K1.out hb2)
  have X2 := hide (X1.out.keep hb2)
  have hf2 := hide (hf.out.keep hS.out K2.out)
  have hXn : Hid (¬ M w.heap.size) := hide (fun e => Nat.lt_irrefl _ ((fld_MB hf.out).2 _ e))
  clear hb2 K1 X1 b8 HM
  obtain ⟨th2, rst2, hb⟩ := fld_blk hf2.out
  have b2 : w2.cell? ⟨B, 2, none⟩ = some (.func (.func nC) #[] capsC) := by rw [← hce]; exact hb.at' 2
  have b11 : w2.cell? ⟨B, 11, none⟩ = some (.bool false) := hb.at' 11
  have v0 : w2.cell? ⟨w.heap.size, 0, none⟩ = some (.int .i64 x0) := X2.out.at' 0
  have v1 : w2.cell? ⟨w.heap.size, 1, none⟩ = some (.int .i64 x1) := X2.out.at' 1
  have v2 : w2.cell? ⟨w.heap.size, 2, none⟩ = some (.string x2) := X2.out.at' 2
  obtain ⟨m, hs2, hnB, hcall⟩ := fld_call hS.out hf2.out
  have HC1 := hide (HC.out.call s m ⟨x0, x1, x2⟩ w2 hs2 hx.out)
  have hcall := hide hcall
  clear hb
  obtain ⟨p, hp⟩ : ∃ p, stC s ⟨x0, x1, x2⟩ = p := ⟨_, rfl⟩
  rw [hp] at HC1 hcb
  replace hp := hide hp
  obtain ⟨p1, s2⟩ := p
  have hc0 : Hid (Chg M w w2) := hide (Chg.of_below K2.out)
  cases p1 with
  | bes => exact absurd rfl hcb
  | on =>
    go_wp2_with fail
    refine HC1.out.mono ?_
    rintro e w3 ⟨rfl, m', h1, h2, h3⟩
    obtain ⟨g1, g2, g3⟩ := hcall.out w3 m' s2 h1 h2 h3
    have g1 := hide (g1.keep hS.out (step (Below.refl w3.heap.size w3) (stO false false 0 0 no)))
    have c1 := hide (g3.alloc (stO false false 0 0 no))
    clear b2 b11 v0 v1 v2 h1 h2 h3
    replace g2 := hide g2
    replace g3 := hide g3
    simp only [stV]
    go_wp2_with fail
    refine (HG1.out s2 _ _ g1.out).mono ?_
    rintro e w4 ⟨rfl, M4, k1, k2, k3⟩
    have k1 := hide k1
    have k2 := hide k2
    have k3 := hide k3
    go_wp2_with fail
    go_ret
    have q0 : Grw M M4 w := by
      intro j hj
      rcases k2.out j hj with h | h
      · rcases g2.out j h with h | h
        · exact .inl h
        · exact .inr (Nat.le_trans K2.out.size h)
      · exact .inr (Nat.le_trans K2.out.size (Nat.le_trans c1.out.size h))
    refine ⟨rfl, M4, by rw [hp.out]; exact k1.out, q0, ?_⟩
    have c2 : Chg M w (w3.alloc (stO false false 0 0 no)) := hc0.out.trans c1.out
    exact ⟨k3.out.os.trans c2.os, k3.out.tape.trans c2.tape, k3.out.output.trans c2.output, Nat.le_trans c2.size k3.out.size, fun j hj hn => (k3.out.block j (Nat.lt_of_lt_of_le hj c2.size) (fun e => by rcases g2.out j e with h | h; exact hn h; have := K2.out.size; omega)).trans (c2.block j hj hn)⟩
  | ends y =>
    obtain ⟨y0, y1, y2⟩ := y
    go_wp2_with fail
    refine HC1.out.mono ?_
    rintro e w3 ⟨rfl, m', h1, h2, h3⟩
    obtain ⟨g1, g2, g3⟩ := hcall.out w3 m' s2 h1 h2 h3
    have g1 := hide (g1.keep hS.out (step (Below.refl w3.heap.size w3) (stO false true y0 y1 y2)))
    have c1 := hide (g3.alloc (stO false true y0 y1 y2))
    clear b2 b11 v0 v1 v2 h1 h2 h3
    replace g2 := hide g2
    replace g3 := hide g3
    obtain ⟨th4, rst4, hb4⟩ := fld_blk g1.out
    have hb4 := hide hb4
    simp only [stV]
    go_wp2_with fail
    refine (finish_any hb4.out y0 y1 y2).mono ?_
    rintro e w4 ⟨rfl, k1, k3⟩
    have k1 := hide k1
    have k3 := hide k3
    go_wp2_with fail
    go_ret
    have hMB := (fld_MB hf.out).1
    have c2 : Chg M w (w3.alloc (stO false true y0 y1 y2)) := hc0.out.trans c1.out
    have c3 : Chg M w w4 := c2.trans (chg_of k3.out (fun k e => e ▸ hMB))
    rw [hp.out]
    exact ⟨rfl, M, ⟨k1.out, hMB, fun j hj => Nat.lt_of_lt_of_le ((fld_MB hf.out).2 j hj) c3.size⟩, Grw.refl _ _, c3⟩
end Go.Proofs.YtnpdkojhlgchlaaGreatDoor
