/- Package fold's goOn: through what is left, up to the next place that is wanted, or to the end; for whatever rule. Proved of the Go text. -/
import Derived.Test.YtnpdkojhlgchlaaGreatDoorGo15
namespace Go.Proofs.YtnpdkojhlgchlaaGreatDoor
open Go.RowKit Go.Sort
open T9 (Blk Chg)
set_option linter.unusedVariables false

/-- How much is left, by the fold's own cell. -/
def restLen (B : Nat) (w : World) : Nat := match w.cell? ⟨B, 6, none⟩ with | some (.slice _ n _) => n | _ => 0
theorem restLen_at {B : Nat} {w : World} {a : Option Addr} {n c : Nat} (h : w.cell? ⟨B, 6, none⟩ = some (.slice a n c)) : restLen B w = n := by unfold restLen; rw [h]
def stC : Stp → Array Value
  | .on => #[.bool false, .bool false, .int .i64 0, .int .i64 0, .string no]
  | .bes => #[.bool true, .bool false, .int .i64 0, .int .i64 0, .string no]
  | .ends v => #[.bool false, .bool true, .int .i64 v.k, .int .i64 v.i, .string v.t]
/-- What a call of a rule's function leaves, and the box of its answer. -/
def Gvn {σ : Type} (S : σ → (Nat → Prop) → World → Prop) (m : Nat → Prop) (w wx : World) (X : Nat) (p : Stp × σ) : Prop :=
  Blk wx X (stC p.1) 82 ∧ w.heap.size ≤ X ∧ ∃ m', S p.2 m' wx ∧ Grw m m' w ∧ Chg m w wx ∧ ¬ m' X
theorem gvn_a {σ : Type} {S : σ → (Nat → Prop) → World → Prop} (hS : Stay S) {m : Nat → Prop} {w w2 : World} {p : Stp × σ} (h : ∃ m', S p.2 m' w2 ∧ Grw m m' w ∧ Chg m w w2) : Gvn S m w (w2.alloc (.cells (stC p.1) 82)) w2.heap.size p := by
  obtain ⟨m', h1, h2, h3⟩ := h
  exact ⟨Blk.new _ _ _, h3.size, m', hS.same h1 (fun k hk => Below.heap_alloc w2 _ k (hS.lt h1 k hk)), h2, h3.alloc _, fun e => Nat.lt_irrefl _ (hS.lt h1 _ e)⟩
theorem gvn_b {σ : Type} {S : σ → (Nat → Prop) → World → Prop} (hS : Stay S) {m : Nat → Prop} {w w2 w3 : World} {s : σ} (hs : S s m w) {o : Obj} {p : Stp × σ} (h : ∃ m', S p.2 m' w2 ∧ Grw m m' (w.alloc o) ∧ Chg m (w.alloc o) w2) (hb : Blk w3 w.heap.size (stC p.1) 82) (hc : Chg (· = w.heap.size) w2 w3) : Gvn S m w w3 w.heap.size p := by
  obtain ⟨m', h1, h2, h3⟩ := h
  have hn : ¬ m' w.heap.size := fun e => by
    rcases h2 _ e with h | h
    · exact Nat.lt_irrefl _ (hS.lt hs _ h)
    · simp only [World.size_alloc] at h; omega
  refine ⟨hb, Nat.le_refl _, m', hS.same h1 (fun k hk => hc.block k (hS.lt h1 k hk) (fun e => hn (e ▸ hk))), fun k hk => by
    rcases h2 k hk with h | h
    · exact .inl h
    · right; simp only [World.size_alloc] at h; omega, ?_, hn⟩
  have h4 : Chg m w w2 := (Chg.of_below (step (Below.refl w.heap.size w) o) : Chg m w _).trans h3
  exact ⟨hc.os.trans h4.os, hc.tape.trans h4.tape, hc.output.trans h4.output, Nat.le_trans h4.size hc.size, fun k hk hm => (hc.block k (Nat.lt_of_lt_of_le hk h4.size) (by omega)).trans (h4.block k hk hm)⟩
theorem drewL {m : Nat → Prop} {w w' : World} (h : Chg m w.drew w') : Chg m w w' := ⟨h.os, h.tape, h.output, h.size, h.block⟩
theorem fld_re {σ : Type} {S : σ → (Nat → Prop) → World → Prop} (hS : Stay S) {F : Fns} {w w' : World} {B : Nat} {m M : Nat → Prop} {th : Value} {a' : Option Addr} {len' cap' : Nat} {rest' : List Ag} {k' : Nat} {wt' : Bool} {r' c' : Int} {bs' : Bool} {s : σ} (hc : Chg (· = B) w w') (hB : Blk w' B (fC th F.gi F.ce F.be F.se F.la (.slice a' len' cap') k' wt' r' c' bs' 0 0 no) 79) (hl : len' = rest'.length) (hb : len' ≤ cap' ∧ len' ≤ 1000000 ∧ k' ≤ 4096)
    (ha : ArgsAt w (fun b => M b ∧ ¬ m b ∧ b ≠ B) a' rest') (hok : ∀ a ∈ rest', AgOk a) (hs : S s m w) (hn : ¬ m B) (hM : M B) (hmM : ∀ k, m k → M k) (hlt : ∀ k, M k → k < w.heap.size) : Fld S F w' B M rest' k' wt' r' c' bs' s :=
  ⟨m, th, a', len', cap', hB, hl, hb, ha.move (fun k hk => ⟨hk, hc.block k (hlt k hk.1) hk.2.2⟩), hok, hS.same hs (fun k hk => hc.block k (hS.lt hs k hk) (fun e => hn (e ▸ hk))), hn, hM, hmM, fun k hk => Nat.lt_of_lt_of_le (hlt k hk) hc.size⟩
set_option maxHeartbeats 2000000 in
set_option maxRecDepth 100000 in
theorem goOn_any {σ : Type} {S : σ → (Nat → Prop) → World → Prop} (hS : Stay S) (F : Fns) (stG : σ → Va → Stp × σ) (last : σ → Va) (nL : Nat) (capsL : Array Value) (hla : F.la = .func (.func nL) #[] capsL) (HL : Ends S last nL capsL)
    (rest : List Ag) (HG : (∀ a ∈ rest, a.is = true) ∨ ∃ nG capsG, F.gi = .func (.func nG) #[] capsG ∧ Does S stG nG capsG) (hnb : ∀ s x, (stG s x).1 ≠ .bes) (k : Nat) (wt : Bool) (r c : Int) (bs : Bool) (s : σ) (w : World) (B : Nat) (M : Nat → Prop) (hf : Fld S F w B M rest k wt r c bs s) :
    Calls Tryz.prog 25 #[.pointer (some ⟨B, 0, none⟩)] w fun e w' => e = .returned (.tuple #[]) ∧ ∃ M', FoldAt S F w' B M' (goOn stG last rest k s) ∧ Grw M M' w ∧ Chg M w w' := by
  replace hS := hide hS
  replace HG := hide HG
  replace hnb := hide hnb
  replace hf := hide hf
  have hent := HL.ent
  replace HL := hide HL
  replace hla := hide hla
  go_enter Tryz.func25, Tryz.ntmps25
  go_wp2_with fail
  go_loopw [] (fun wr => ∃ M' rest' k' wt' r' c' bs' s', Hid (Fld S F wr B M' rest' k' wt' r' c' bs' s') ∧ Hid (goOn stG last rest k s = goOn stG last rest' k' s') ∧ Hid (Grw M M' w) ∧ Hid (Chg M w wr) ∧ Hid (∀ a ∈ rest', a ∈ rest)) (fun wr => restLen B wr)
  case atStart => exact ⟨M, rest, k, wt, r, c, bs, s, hf, hide rfl, hide (Grw.refl _ _), hide (Chg.refl _ _), hide (fun _ h => h)⟩
  case round =>
    obtain ⟨M1, rest1, k1, wt1, r1, c1, bs1, s1, hf1, hgo1, hgr1, hch1, hin1⟩ := hrel
    obtain ⟨m, th, a, len, cap, hB, hlen, hbd, hargs, hok, hs, hnB, hMB, hmM, hMlt⟩ := hf1.out
    clear hf1
    replace hB := hide hB
    replace hok := hide hok
    replace hs := hide hs
    replace hargs := hide hargs
    replace hnB := hide hnB
    replace hMB := hide hMB
    replace hmM := hide hmM
    replace hMlt := hide hMlt
    cases rest1 with
    | nil =>
      obtain rfl : len = 0 := hlen
      have b6 : wr.cell? ⟨B, 6, none⟩ = some (.slice a 0 cap) := hB.out.at' 6
      have b5 : wr.cell? ⟨B, 5, none⟩ = some (.func (.func nL) #[] capsL) := by rw [← hla.out]; exact hB.out.at' 5
      clear hbd
      go_wp2_with fail
      refine (HL.out.call s1 m wr hs.out).mono ?_
      rintro e w2 ⟨rfl, hc2⟩
      have hB2 := hide (hc2.blk hB.out hnB.out)
      generalize hx : last s1 = x
      replace hx := hide hx
      obtain ⟨x0, x1, x2⟩ := x
      go_wp2_with fail
      refine (finish_any hB2.out x0 x1 x2).mono ?_
      rintro e w3 ⟨rfl, hov, hc3⟩
      go_wp2_with fail
      refine Go.Great.bodyPost_end0 rfl rfl ?_
      refine ⟨rfl, M1, ?_, hgr1.out, chg_then hch1.out hgr1.out ((chg_of hc2 hmM.out).trans (chg_of hc3 (fun k e => e ▸ hMB.out)))⟩
      rw [hgo1.out, goOn, hx.out]
      exact ⟨hov, hMB.out, fun k hk => Nat.lt_of_lt_of_le (hMlt.out k hk) (Nat.le_trans hc2.size hc3.size)⟩
    | cons ag rr =>
      obtain ⟨n, hn⟩ : ∃ n, rr.length = n := ⟨_, rfl⟩
      obtain rfl : len = n + 1 := by rw [hlen, List.length_cons, hn]
      obtain ⟨b, o, rfl, hq, hrow⟩ : ∃ b o, a = some ⟨b, o, none⟩ ∧ (M1 b ∧ ¬ m b ∧ b ≠ B) ∧ ∀ (j : Nat) (x : Ag), (ag :: rr)[j]? = some x → wr.rangeAt b (o + j * 8) (agL x) := by
        rcases hargs.out with h | h
        · cases h
        · exact h
      have hA := hrow 0 ag rfl
      rw [Nat.zero_mul, Nat.add_zero] at hA
      obtain ⟨a', hsl, hsl'⟩ := slice1 b o n cap hbd.1
      have oka := hide (hok.out ag (List.mem_cons_self ..))
      have hin2 := hide (fun x (hx : x ∈ rr) => hin1.out x (List.mem_cons_of_mem _ hx))
      have hin0 := hide (hin1.out ag (List.mem_cons_self ..))
      have hok2 := hide (fun x (hx : x ∈ rr) => hok.out x (List.mem_cons_of_mem _ hx))
      have hgo2 := hide (show goOn stG last (ag :: rr) k1 s1 = _ from goOn.eq_2 stG last k1 s1 ag rr)
      have hrow := hide hrow
      have hq := hide hq
      have hbd := hide hbd
      have hsl' := hide hsl'
      have hn := hide hn
      obtain ⟨is, t, l, bb, r0, ⟨vk, vi, vt⟩⟩ := ag
      have a0 : wr.cell? ⟨b, o, none⟩ = some (.bool is) := hA 0 _ rfl
      have a1 : wr.cell? ⟨b, o + 1, none⟩ = some (.int .i64 t) := hA 1 _ rfl
      have a2 : wr.cell? ⟨b, o + 2, none⟩ = some (.int .i64 l) := hA 2 _ rfl
      have a3 : wr.cell? ⟨b, o + 3, none⟩ = some (.int .i64 bb) := hA 3 _ rfl
      have a4 : wr.cell? ⟨b, o + 4, none⟩ = some (.int .i64 r0) := hA 4 _ rfl
      have a5 : wr.cell? ⟨b, o + 5, none⟩ = some (.int .i64 vk) := hA 5 _ rfl
      have a6 : wr.cell? ⟨b, o + 6, none⟩ = some (.int .i64 vi) := hA 6 _ rfl
      have a7 : wr.cell? ⟨b, o + 7, none⟩ = some (.string vt) := hA 7 _ rfl
      have b6 : wr.cell? ⟨B, 6, none⟩ = some (.slice (some ⟨b, o, none⟩) (n + 1) cap) := hB.out.at' 6
      have hrl := hide (restLen_at b6)
      clear hA hargs hlen hok
      go_upto_region 2 with fail
      clear a0 a1 a2 a3 a4 a5 a6 a7 b6
      have K1 := Below.refl wr.heap.size wr
      replace K1 := hide (step K1 (agO ⟨is, t, l, bb, r0, ⟨vk, vi, vt⟩⟩))
      have X1 := hide (Blk.new wr #[.bool is, .int .i64 t, .int .i64 l, .int .i64 bb, .int .i64 r0, .int .i64 vk, .int .i64 vi, .string vt] 41)
      have hB1 := hide (hB.out.keep K1.out)
      obtain ⟨w1, hw1⟩ : ∃ w1, wr.alloc (.cells #[.bool is, .int .i64 t, .int .i64 l, .int .i64 bb, .int .i64 r0, .int .i64 vk, .int .i64 vi, .string vt] 41) = w1 := ⟨_, rfl⟩
      simp only [agO] at K1
      rw [hw1] at K1 X1 hB1 ⊢
      clear hw1
      have hXB : Hid (wr.heap.size ≠ B) := hide (Nat.ne_of_gt hB.out.lt)
      have hmX : Hid (¬ m wr.heap.size) := hide (fun e => Nat.lt_irrefl _ (hS.out.lt hs.out _ e))
      have hs1 := hide (hS.out.same hs.out (fun k hk => K1.out.block k (hS.out.lt hs.out k hk)))
      have hMlt1 := hide (fun k hk => Nat.lt_of_lt_of_le (hMlt.out k hk) K1.out.size)
      have hrow1 := hide (fun j x hx => T9.range_of_block (hrow.out j x hx) (K1.out.block b (hMlt.out b hq.out.1)))
      have hch2 := hide (chg_then hch1.out hgr1.out (Chg.of_below K1.out : Chg M1 wr w1))
      have x0 : w1.cell? ⟨wr.heap.size, 0, none⟩ = some (.bool is) := X1.out.at' 0
      have hargs1 : Hid (ArgsAt w1 (fun b => M1 b ∧ ¬ m b ∧ b ≠ B) a' rr) := hide (by
        by_cases h0 : 0 < n
        · rw [hsl'.out h0]; exact ArgsAt.tail hq.out hrow1.out
        · left; exact List.eq_nil_of_length_eq_zero (by have := hn.out; omega))
      clear hsl'
      cases is with
      | true =>
        have x1 : w1.cell? ⟨wr.heap.size, 1, none⟩ = some (.int .i64 t) := X1.out.at' 1
        have x2 : w1.cell? ⟨wr.heap.size, 2, none⟩ = some (.int .i64 l) := X1.out.at' 2
        have x3 : w1.cell? ⟨wr.heap.size, 3, none⟩ = some (.int .i64 bb) := X1.out.at' 3
        have x4 : w1.cell? ⟨wr.heap.size, 4, none⟩ = some (.int .i64 r0) := X1.out.at' 4
        have HW := hide (walkOn_any k1 hB1.out ⟨true, t, l, bb, r0, ⟨vk, vi, vt⟩⟩ rfl oka.out hbd.out.2.2)
        go_wp2_with fail
        refine (HW.out).mono ?_
        rintro e w2 ⟨rfl, hy, hno, hc2⟩
        clear x0 x1 x2 x3 x4 HW
        by_cases hlt : k1 < Ag.many ⟨true, t, l, bb, r0, ⟨vk, vi, vt⟩⟩
        · rw [decide_eq_true hlt]
          replace hy := hide (hy hlt)
          clear hno
          replace hc2 := hide hc2
          replace hlt := hide hlt
          clear hsl
          go_wp2_with fail
          refine bodyPost_ret (v := .tuple #[]) (by simp [results, Tryz.results25, go_sem]; try rfl) rfl ?_
          refine ⟨rfl, M1, ?_, hgr1.out, chg_then hch2.out hgr1.out (chg_of hc2.out (fun k e => e ▸ hMB.out))⟩
          rw [hgo1.out, hgo2.out, if_pos trivial, if_pos hlt.out]
          exact fld_re hS.out hc2.out hy.out (by rw [List.length_cons, hn.out]) ⟨hbd.out.1, hbd.out.2.1, Nat.succ_le_of_lt (Nat.lt_of_lt_of_le hlt.out (by have := oka.out; unfold AgOk at this; simp only [if_true] at this; exact this.2))⟩ (.inr ⟨b, o, rfl, hq.out, hrow1.out⟩) (fun x hx => by rcases List.mem_cons.1 hx with rfl | hx; exact oka.out; exact hok2.out x hx) hs1.out hnB.out hMB.out hmM.out hMlt1.out
        · rw [decide_eq_false hlt]
          have hB2 := hide (hno hlt)
          clear hy hno
          have X2 := hide (hc2.blk X1.out hXB.out)
          have C2 := hide hc2
          replace hlt := hide hlt
          clear hc2
          have b6 : w2.cell? ⟨B, 6, none⟩ = some (.slice (some ⟨b, o, none⟩) (n + 1) cap) := hB2.out.at' 6
          have f6 := hB2.out.fr 6
          have h3 := hide (hB2.out.set 6 (.slice a' n (cap - 1)))
          have C3 := hide (C2.out.set B 6 (.slice a' n (cap - 1)) rfl)
          have X3 := hide (Chg.blk (m := (· = B)) ((Chg.refl (· = B) w2).set B 6 (.slice a' n (cap - 1)) rfl) X2.out hXB.out)
          obtain ⟨w3, hw3⟩ : ∃ w3, w2.setCell ⟨B, 6, none⟩ (.slice a' n (cap - 1)) = w3 := ⟨_, rfl⟩
          rw [hw3] at h3 C3 X3
          have b7 : w3.cell? ⟨B, 7, none⟩ = some (.int .i64 (k1 : Int)) := h3.out.at' 7
          have f7 := h3.out.fr 7
          have h4 := hide (h3.out.set 7 (.int .i64 0))
          have C4 := hide (C3.out.set B 7 (.int .i64 0) rfl)
          have X4 := hide (Chg.blk (m := (· = B)) ((Chg.refl (· = B) w3).set B 7 (.int .i64 0) rfl) X3.out hXB.out)
          obtain ⟨w4, hw4⟩ : ∃ w4, w3.setCell ⟨B, 7, none⟩ (.int .i64 0) = w4 := ⟨_, rfl⟩
          rw [hw4] at h4 C4 X4
          have x0 : w4.cell? ⟨wr.heap.size, 0, none⟩ = some (.bool true) := X4.out.at' 0
          go_wp2_with fail
          refine ⟨⟨M1, rr, 0, wt1, r1, c1, bs1, s1, hide ?_, hide ?_, hgr1, hide ?_, hin2⟩, ?_⟩
          · exact fld_re hS.out C4.out h4.out hn.out.symm ⟨by have := hbd.out.1; omega, by have := hbd.out.2.1; omega, Nat.zero_le _⟩ hargs1.out hok2.out hs1.out hnB.out hMB.out hmM.out hMlt1.out
          · rw [hgo1.out, hgo2.out, if_pos trivial, if_neg hlt.out]
          · exact chg_then hch2.out hgr1.out (chg_of C4.out (fun k e => e ▸ hMB.out))
          · show restLen B _ < restLen B _
            rw [hrl.out, restLen_at (h4.out.at' 6)]
            omega
      | false =>
        have C1 := hide (Chg.refl (· = B) w1)
        have b6 : w1.cell? ⟨B, 6, none⟩ = some (.slice (some ⟨b, o, none⟩) (n + 1) cap) := hB1.out.at' 6
        have f6 := hB1.out.fr 6
        have h3 := hide (hB1.out.set 6 (.slice a' n (cap - 1)))
        have C3 := hide (C1.out.set B 6 (.slice a' n (cap - 1)) rfl)
        have X3 := hide (Chg.blk (m := (· = B)) ((Chg.refl (· = B) w1).set B 6 (.slice a' n (cap - 1)) rfl) X1.out hXB.out)
        obtain ⟨w3, hw3⟩ : ∃ w3, w1.setCell ⟨B, 6, none⟩ (.slice a' n (cap - 1)) = w3 := ⟨_, rfl⟩
        rw [hw3] at h3 C3 X3
        have b7 : w3.cell? ⟨B, 7, none⟩ = some (.int .i64 (k1 : Int)) := h3.out.at' 7
        have f7 := h3.out.fr 7
        have h4 := hide (h3.out.set 7 (.int .i64 0))
        have C4 := hide (C3.out.set B 7 (.int .i64 0) rfl)
        have X4 := hide (Chg.blk (m := (· = B)) ((Chg.refl (· = B) w3).set B 7 (.int .i64 0) rfl) X3.out hXB.out)
        obtain ⟨w4, hw4⟩ : ∃ w4, w3.setCell ⟨B, 7, none⟩ (.int .i64 0) = w4 := ⟨_, rfl⟩
        rw [hw4] at h4 C4 X4
        have x0' : w4.cell? ⟨wr.heap.size, 0, none⟩ = some (.bool false) := X4.out.at' 0
        obtain ⟨nG, capsG, hgi, HD⟩ : ∃ nG capsG, F.gi = .func (.func nG) #[] capsG ∧ Does S stG nG capsG := by
          rcases HG.out with h | h
          · have := h _ hin0.out; cases this
          · exact h
        have hentG := HD.ent
        have hs4 := hide (hS.out.same hs1.out (fun k hk => C4.out.block k (hS.out.lt hs1.out k hk) (fun e => hnB.out (e ▸ hk))))
        have vok : Hid (VaOk ⟨vk, vi, vt⟩) := hide (by have := oka.out; unfold AgOk at this; simpa using this)
        have HC := hide (fun w => HD.call s1 m ⟨vk, vi, vt⟩ w)
        have hb := hnb.out s1 ⟨vk, vi, vt⟩
        have y1 : w4.cell? ⟨B, 1, none⟩ = some (.func (.func nG) #[] capsG) := by rw [← hgi]; exact h4.out.at' 1
        have y5 : w4.cell? ⟨wr.heap.size, 5, none⟩ = some (.int .i64 vk) := X4.out.at' 5
        have y6 : w4.cell? ⟨wr.heap.size, 6, none⟩ = some (.int .i64 vi) := X4.out.at' 6
        have y7 : w4.cell? ⟨wr.heap.size, 7, none⟩ = some (.string vt) := X4.out.at' 7
        replace HD := hide HD
        replace hgi := hide hgi
        go_upto_region 5 with fail
        clear x0 x0'
        have hgo3 : Hid (goOn stG last rest k s = match stG s1 ⟨vk, vi, vt⟩ with | (.ends x, _) => .over x | (_, s') => goOn stG last rr 0 s') := hide (by rw [hgo1.out, hgo2.out, if_neg (by simp)]; rfl)
        generalize stG s1 ⟨vk, vi, vt⟩ = p at *
        obtain ⟨p1, s2⟩ := p
        cases p1 with
        | bes => exact absurd rfl hb
        | on =>
          clear hb
          have hm4 : Hid (¬ m w4.heap.size) := hide (fun e => Nat.lt_irrefl _ (hS.out.lt hs4.out _ e))
          have zn1 := World.new_ne w4 _ y1
          have zn5 := World.new_ne w4 _ y5
          have zn6 := World.new_ne w4 _ y6
          have zn7 := World.new_ne w4 _ y7
          have HC1 : Hid (Calls Tryz.prog nG (#[vV vk vi vt] ++ capsG) w4.drew fun e w' => e = .returned (.agg #[.bool false, .bool false, .int .i64 0, .int .i64 0, .string no]) ∧ ∃ m', S s2 m' w' ∧ Grw m m' w4 ∧ Chg m w4 w') := hide ((HC.out w4.drew (hS.out.same hs4.out (fun k hk => rfl)) vok.out).mono fun e w' ⟨h1, m', h2, h3, h4⟩ => ⟨h1, m', h2, h3, drewL h4⟩)
          have HC2 : Hid (∀ ob, Calls Tryz.prog nG (#[vV vk vi vt] ++ capsG) (w4.alloc ob).drew fun e w' => e = .returned (.agg #[.bool false, .bool false, .int .i64 0, .int .i64 0, .string no]) ∧ ∃ m', S s2 m' w' ∧ Grw m m' (w4.alloc ob) ∧ Chg m (w4.alloc ob) w') := hide (fun ob => (HC.out (w4.alloc ob).drew (hS.out.same hs4.out (fun k hk => Below.heap_alloc w4 ob k (hS.out.lt hs4.out k hk))) vok.out).mono fun e w' ⟨h1, m', h2, h3, h4⟩ => ⟨h1, m', h2, h3, drewL h4⟩)
          clear HC
          go_cut [3] from 37 to 44 (fun c wx => ∃ X, c = .pointer (some ⟨X, 0, none⟩) ∧ Hid (Gvn S m w4 wx X (.on, s2)))
          case first =>
            go_region_held (fun w' => w'.cell? ⟨B, 1, none⟩ = some (.func (.func nG) #[] capsG) ∧ w'.cell? ⟨wr.heap.size, 5, none⟩ = some (.int .i64 vk) ∧ w'.cell? ⟨wr.heap.size, 6, none⟩ = some (.int .i64 vi) ∧ w'.cell? ⟨wr.heap.size, 7, none⟩ = some (.string vt)) (go_keep) (first
              | (refine HC1.out.mono ?_; rintro e w5 ⟨rfl, hg5⟩; have D5 : Chg m w4 w5 := (hg5.elim fun _ h => h.2.2); have q1 := D5.blk h4.out hnB.out; have q2 := D5.blk X4.out hmX.out; have z1 : w5.cell? ⟨B, 1, none⟩ = some (.func (.func nG) #[] capsG) := (by rw [← hgi.out]; exact q1.at' 1); have z5 : w5.cell? ⟨wr.heap.size, 5, none⟩ = some (.int .i64 vk) := q2.at' 5; have z6 : w5.cell? ⟨wr.heap.size, 6, none⟩ = some (.int .i64 vi) := q2.at' 6; have z7 : w5.cell? ⟨wr.heap.size, 7, none⟩ = some (.string vt) := q2.at' 7; have D6 := hide hg5; clear hg5 q1 q2 D5)
              | (refine (HC2.out (stO false false 0 0 no)).mono ?_; rintro e w5 ⟨rfl, hg5⟩; have q3 : Blk w5 w4.heap.size #[.bool false, .bool false, .int .i64 0, .int .i64 0, .string no] 82 := (hg5.elim fun _ h => h.2.2.blk (Blk.new w4 #[.bool false, .bool false, .int .i64 0, .int .i64 0, .string no] 82) hm4.out); have g0 : w5.cell? ⟨w4.heap.size, 0, none⟩ = some (.bool false) := q3.at' 0; have g1 : w5.cell? ⟨w4.heap.size, 1, none⟩ = some (.bool false) := q3.at' 1; have g2 : w5.cell? ⟨w4.heap.size, 2, none⟩ = some (.int .i64 0) := q3.at' 2; have g3 : w5.cell? ⟨w4.heap.size, 3, none⟩ = some (.int .i64 0) := q3.at' 3; have g4 : w5.cell? ⟨w4.heap.size, 4, none⟩ = some (.string no) := q3.at' 4; have gf := q3.fr; have q3 := hide q3; have D5 : Chg m w4 w5 := (hg5.elim fun _ h => (Chg.of_below (step (Below.refl w4.heap.size w4) _) : Chg m w4 _).trans h.2.2); have q1 := D5.blk h4.out hnB.out; have q2 := D5.blk X4.out hmX.out; have z1 : w5.cell? ⟨B, 1, none⟩ = some (.func (.func nG) #[] capsG) := (by rw [← hgi.out]; exact q1.at' 1); have z5 : w5.cell? ⟨wr.heap.size, 5, none⟩ = some (.int .i64 vk) := q2.at' 5; have z6 : w5.cell? ⟨wr.heap.size, 6, none⟩ = some (.int .i64 vi) := q2.at' 6; have z7 : w5.cell? ⟨wr.heap.size, 7, none⟩ = some (.string vt) := q2.at' 7; have D7 := hide hg5; clear hg5 q1 q2 D5))
            all_goals (go_wp2_with fail)
            all_goals go_meet
            · exact ⟨_, rfl, hide (gvn_a hS.out (p := (.on, s2)) D6.out)⟩
            · exact ⟨_, rfl, hide (gvn_b hS.out hs4.out (p := (.on, s2)) D7.out (((((q3.out.set 0 (.bool false)).set 1 (.bool false)).set 2 (.int .i64 0)).set 3 (.int .i64 0)).set 4 (.string no)) ((((((Chg.refl (· = w4.heap.size) w5).set w4.heap.size 0 (.bool false) rfl).set w4.heap.size 1 (.bool false) rfl).set w4.heap.size 2 (.int .i64 0) rfl).set w4.heap.size 3 (.int .i64 0) rfl).set w4.heap.size 4 (.string no) rfl))⟩
          case rest =>
            obtain ⟨X, rfl, hgv⟩ := hcut
          
            rename World => wx
            obtain ⟨hX, hXl, m5, hs5, hg5, hc5, hm5⟩ := hgv.out
            clear hgv HC1 HC2 y1 y5 y6 y7 zn1 zn5 zn6 zn7
            have hB5 := hide (hc5.blk h4.out hnB.out)
            have c1' : wx.cell? ⟨X, 1, none⟩ = some (.bool false) := hX.at' 1
            have c2' : wx.cell? ⟨X, 2, none⟩ = some (.int .i64 0) := hX.at' 2
            have c3' : wx.cell? ⟨X, 3, none⟩ = some (.int .i64 0) := hX.at' 3
            have c4' : wx.cell? ⟨X, 4, none⟩ = some (.string no) := hX.at' 4
            have hch5 := hide (chg_then hch2.out hgr1.out ((chg_of C4.out (fun k e => e ▸ hMB.out) : Chg M1 w1 w4).trans (chg_of hc5 hmM.out)))
            replace hX := hide hX
            replace hs5 := hide hs5
            replace hg5 := hide hg5
            replace hc5 := hide hc5
            replace hm5 := hide hm5
            replace hXl := hide hXl
            clear hw3 hw4 f6 f7 b6 b7 hsl
            go_wp2_with fail
            have hn5 : ¬ m5 B := fun e => by rcases hg5.out _ e with h | h; exact hnB.out h; exact absurd h4.out.lt (Nat.not_lt_of_le h)
            have hz4 := C4.out.size
            refine ⟨⟨fun k => M1 k ∨ m5 k, rr, 0, wt1, r1, c1, bs1, s2, hide ⟨m5, th, a', n, cap - 1, hB5.out, hn.out.symm, ⟨by have := hbd.out.1; omega, by have := hbd.out.2.1; omega, Nat.zero_le _⟩, hargs1.out.move (fun k hk => ⟨⟨.inl hk.1, fun e => by rcases hg5.out _ e with h | h; exact hk.2.1 h; exact absurd (hMlt1.out k hk.1) (by omega), hk.2.2⟩, (hc5.out.block k (Nat.lt_of_lt_of_le (hMlt1.out k hk.1) hz4) hk.2.1).trans (C4.out.block k (hMlt1.out k hk.1) hk.2.2)⟩), hok2.out, hs5.out, hn5, .inl hMB.out, fun k hk => .inr hk, fun k hk => by rcases hk with h | h; exact Nat.lt_of_lt_of_le (hMlt1.out k h) (Nat.le_trans hz4 hc5.out.size); exact hS.out.lt hs5.out k h⟩, hgo3, hide ?_, hch5, hin2⟩, ?_⟩
            · intro k hk
              rcases hk with h | h
              · exact hgr1.out k h
              · rcases hg5.out k h with h | h
                · exact hgr1.out k (hmM.out k h)
                · exact .inr (Nat.le_trans hch1.out.size (Nat.le_trans K1.out.size (Nat.le_trans hz4 h)))
            · show restLen B _ < restLen B _
              rw [hrl.out, restLen_at (hB5.out.at' 6)]
              omega
        | ends x =>
          obtain ⟨e0, e1, e2⟩ := x
          clear hb
          have hm4 : Hid (¬ m w4.heap.size) := hide (fun e => Nat.lt_irrefl _ (hS.out.lt hs4.out _ e))
          have zn1 := World.new_ne w4 _ y1
          have zn5 := World.new_ne w4 _ y5
          have zn6 := World.new_ne w4 _ y6
          have zn7 := World.new_ne w4 _ y7
          have HC1 : Hid (Calls Tryz.prog nG (#[vV vk vi vt] ++ capsG) w4.drew fun e w' => e = .returned (.agg #[.bool false, .bool true, .int .i64 e0, .int .i64 e1, .string e2]) ∧ ∃ m', S s2 m' w' ∧ Grw m m' w4 ∧ Chg m w4 w') := hide ((HC.out w4.drew (hS.out.same hs4.out (fun k hk => rfl)) vok.out).mono fun e w' ⟨h1, m', h2, h3, h4⟩ => ⟨h1, m', h2, h3, drewL h4⟩)
          have HC2 : Hid (∀ ob, Calls Tryz.prog nG (#[vV vk vi vt] ++ capsG) (w4.alloc ob).drew fun e w' => e = .returned (.agg #[.bool false, .bool true, .int .i64 e0, .int .i64 e1, .string e2]) ∧ ∃ m', S s2 m' w' ∧ Grw m m' (w4.alloc ob) ∧ Chg m (w4.alloc ob) w') := hide (fun ob => (HC.out (w4.alloc ob).drew (hS.out.same hs4.out (fun k hk => Below.heap_alloc w4 ob k (hS.out.lt hs4.out k hk))) vok.out).mono fun e w' ⟨h1, m', h2, h3, h4⟩ => ⟨h1, m', h2, h3, drewL h4⟩)
          clear HC
          go_cut [3] from 37 to 44 (fun c wx => ∃ X, c = .pointer (some ⟨X, 0, none⟩) ∧ Hid (Gvn S m w4 wx X (.ends ⟨e0, e1, e2⟩, s2)))
          case first =>
            go_region_held (fun w' => w'.cell? ⟨B, 1, none⟩ = some (.func (.func nG) #[] capsG) ∧ w'.cell? ⟨wr.heap.size, 5, none⟩ = some (.int .i64 vk) ∧ w'.cell? ⟨wr.heap.size, 6, none⟩ = some (.int .i64 vi) ∧ w'.cell? ⟨wr.heap.size, 7, none⟩ = some (.string vt)) (go_keep) (first
              | (refine HC1.out.mono ?_; rintro e w5 ⟨rfl, hg5⟩; have D5 : Chg m w4 w5 := (hg5.elim fun _ h => h.2.2); have q1 := D5.blk h4.out hnB.out; have q2 := D5.blk X4.out hmX.out; have z1 : w5.cell? ⟨B, 1, none⟩ = some (.func (.func nG) #[] capsG) := (by rw [← hgi.out]; exact q1.at' 1); have z5 : w5.cell? ⟨wr.heap.size, 5, none⟩ = some (.int .i64 vk) := q2.at' 5; have z6 : w5.cell? ⟨wr.heap.size, 6, none⟩ = some (.int .i64 vi) := q2.at' 6; have z7 : w5.cell? ⟨wr.heap.size, 7, none⟩ = some (.string vt) := q2.at' 7; have D6 := hide hg5; clear hg5 q1 q2 D5)
              | (refine (HC2.out (stO false false 0 0 no)).mono ?_; rintro e w5 ⟨rfl, hg5⟩; have q3 : Blk w5 w4.heap.size #[.bool false, .bool false, .int .i64 0, .int .i64 0, .string no] 82 := (hg5.elim fun _ h => h.2.2.blk (Blk.new w4 #[.bool false, .bool false, .int .i64 0, .int .i64 0, .string no] 82) hm4.out); have g0 : w5.cell? ⟨w4.heap.size, 0, none⟩ = some (.bool false) := q3.at' 0; have g1 : w5.cell? ⟨w4.heap.size, 1, none⟩ = some (.bool false) := q3.at' 1; have g2 : w5.cell? ⟨w4.heap.size, 2, none⟩ = some (.int .i64 0) := q3.at' 2; have g3 : w5.cell? ⟨w4.heap.size, 3, none⟩ = some (.int .i64 0) := q3.at' 3; have g4 : w5.cell? ⟨w4.heap.size, 4, none⟩ = some (.string no) := q3.at' 4; have gf := q3.fr; have q3 := hide q3; have D5 : Chg m w4 w5 := (hg5.elim fun _ h => (Chg.of_below (step (Below.refl w4.heap.size w4) _) : Chg m w4 _).trans h.2.2); have q1 := D5.blk h4.out hnB.out; have q2 := D5.blk X4.out hmX.out; have z1 : w5.cell? ⟨B, 1, none⟩ = some (.func (.func nG) #[] capsG) := (by rw [← hgi.out]; exact q1.at' 1); have z5 : w5.cell? ⟨wr.heap.size, 5, none⟩ = some (.int .i64 vk) := q2.at' 5; have z6 : w5.cell? ⟨wr.heap.size, 6, none⟩ = some (.int .i64 vi) := q2.at' 6; have z7 : w5.cell? ⟨wr.heap.size, 7, none⟩ = some (.string vt) := q2.at' 7; have D7 := hide hg5; clear hg5 q1 q2 D5))
            all_goals (go_wp2_with fail)
            all_goals go_meet
            · exact ⟨_, rfl, hide (gvn_a hS.out (p := (.ends ⟨e0, e1, e2⟩, s2)) D6.out)⟩
            · exact ⟨_, rfl, hide (gvn_b hS.out hs4.out (p := (.ends ⟨e0, e1, e2⟩, s2)) D7.out (((((q3.out.set 0 (.bool false)).set 1 (.bool true)).set 2 (.int .i64 e0)).set 3 (.int .i64 e1)).set 4 (.string e2)) ((((((Chg.refl (· = w4.heap.size) w5).set w4.heap.size 0 (.bool false) rfl).set w4.heap.size 1 (.bool true) rfl).set w4.heap.size 2 (.int .i64 e0) rfl).set w4.heap.size 3 (.int .i64 e1) rfl).set w4.heap.size 4 (.string e2) rfl))⟩
          case rest =>
            obtain ⟨X, rfl, hgv⟩ := hcut
          
            rename World => wx
            obtain ⟨hX, hXl, m5, hs5, hg5, hc5, hm5⟩ := hgv.out
            clear hgv HC1 HC2 y1 y5 y6 y7 zn1 zn5 zn6 zn7
            have hB5 := hide (hc5.blk h4.out hnB.out)
            have c1' : wx.cell? ⟨X, 1, none⟩ = some (.bool true) := hX.at' 1
            have c2' : wx.cell? ⟨X, 2, none⟩ = some (.int .i64 e0) := hX.at' 2
            have c3' : wx.cell? ⟨X, 3, none⟩ = some (.int .i64 e1) := hX.at' 3
            have c4' : wx.cell? ⟨X, 4, none⟩ = some (.string e2) := hX.at' 4
            have hch5 := hide (chg_then hch2.out hgr1.out ((chg_of C4.out (fun k e => e ▸ hMB.out) : Chg M1 w1 w4).trans (chg_of hc5 hmM.out)))
            replace hX := hide hX
            replace hs5 := hide hs5
            replace hg5 := hide hg5
            replace hc5 := hide hc5
            replace hm5 := hide hm5
            replace hXl := hide hXl
            clear hw3 hw4 f6 f7 b6 b7 hsl
            go_wp2_with fail
            refine (finish_any hB5.out e0 e1 e2).mono ?_
            rintro e w6 ⟨rfl, hov, hc6⟩
            go_wp2_with fail
            refine bodyPost_ret (v := .tuple #[]) (by simp [results, Tryz.results25, go_sem]; try rfl) rfl ?_
            refine ⟨rfl, M1, ?_, hgr1.out, chg_then hch5.out hgr1.out (chg_of hc6 (fun k e => e ▸ hMB.out))⟩
            rw [hgo3.out]
            exact ⟨hov, hMB.out, fun k hk => Nat.lt_of_lt_of_le (hMlt1.out k hk) (Nat.le_trans C4.out.size (Nat.le_trans hc5.out.size hc6.size))⟩
end Go.Proofs.YtnpdkojhlgchlaaGreatDoor
