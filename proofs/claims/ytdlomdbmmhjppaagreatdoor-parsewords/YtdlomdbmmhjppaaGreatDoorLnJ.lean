/- parse.line: a line of the grammar, by what the readings below it come to. Proved of the Go text. parse.line: operations of two. Proved of the Go text. parse.line: its loop. Proved of the Go text. -/
import Derived.Test.YtdlomdbmmhjppaaGreatDoorRh9
import Derived.Deep.RegionWith
import Derived.Deep.CutRange
namespace Go.Proofs.YtdlomdbmmhjppaaGreatDoor.T9
open Go.RowKit Go.Sort
set_option linter.unusedVariables false

variable {B g c mB : Nat} {l : List Wd} {i o : Nat} {Fd : List UInt8 → Option (Int × Int × Int)}
theorem ref_is (hE : EndW l) (hi : i < l.length) (hk : (wdAt l i).kind = 3) (hs : ∀ j, (ba (wdAt l j).text).size ≤ maxLen) : CallP 186 B g c mB l i o [] (refP rdF l i) := by
  unfold refP
  by_cases hn : sgAt l (i + 1) = [58]
  · rw [if_pos hn]
    by_cases hk2 : (wdAt l (i + 2)).kind = 3
    · rw [if_pos hk2]
      exact ref_two hE hi hk (hs _) hn hk2 (hs _)
    · rw [if_neg hk2]
      exact ref_two_bad hE hi hk (hs _) hn hk2
  · rw [if_neg hn]
    exact ref_one hE hi hk (hs _) hn
set_option maxHeartbeats 1000000 in
set_option maxRecDepth 100000 in
theorem line_hi (hi : i < l.length) {n : Nat} (hn : 5 < n) (hn2 : n < 100) {r : PR} (HP : CallP 103 B g c mB l i o [] r) : CallP 79 B g c mB l i o [.int .i64 (n : Int)] r := by
  intro w hR hM
  have hB := hide hR.lt
  have hgl := hide (hR.glt hi)
  have st := step (Below.refl w.heap.size w) z14O
  have H1 := hide (HP (w.alloc z14O) (hR.keep st) (hM.keep hR (grown_of st _)))
  have p1 : (5 : Int) < (n : Int) := by omega
  replace st := hide st
  clear hM HP hR
  cases r with
  | bad er at' =>
    go_enter Tryz.func79, Tryz.ntmps79
    go_wp2_with fail
    refine H1.out.mono ?_
    rintro e w1 ⟨rfl, hg⟩
    exact ⟨rfl, rfl, grown_trans (grown_of st.out _) hg⟩
  | ok t j =>
    go_enter Tryz.func79, Tryz.ntmps79
    go_wp2_with fail
    refine H1.out.mono ?_
    rintro e w1 ⟨a, len, cap, bs, rfl, hN, hO, hij, hjl, hsm⟩
    have G1 := hide (Got.of (lo := w.heap.size + 1) ⟨rfl, rfl, rfl, Nat.le_refl _, fun _ _ _ => rfl⟩ hN hO hsm (by simp))
    have F1 := hide (fun cs => G1.out.fin (cs := cs) hB.out hgl.out)
    have hsn := run_putrow t.nd a len cap (F1.out z14).1 rfl
    clear hN hO
    go_wp2_with fail
    refine bodyPost_ret (v := exV t.nd (.slice a len cap)) (results_cell_row Tryz.results79 _ _ w.heap.size 30 (exC t.nd (.slice a len cap)) (0, 0) _ rfl (F1.out _).2.2.2 Tryz.underlying30 rfl (exC_info _ _)) rfl ?_
    exact ⟨a, len, cap, bs, rfl, (F1.out _).2.1, (F1.out _).2.2.1, hij, hjl, hsm⟩
end Go.Proofs.YtdlomdbmmhjppaaGreatDoor.T9
namespace Go.Proofs.YtdlomdbmmhjppaaGreatDoor.T9
open Go.RowKit Go.Sort
set_option linter.unusedVariables false

theorem built2p (n m : Nd) (s r : Value) : Tryz.prog.builtSlice 30 2 [(0, exV n s), (1, exV m r)] = some (exC n s ++ exC m r) := by kernel_rfl
theorem row2p {w : World} {B : Nat} {n m : Nd} {s r : Value} {t : TypeId} (h : Blk w B (exC n s ++ exC m r) t) : w.rangeAt B 0 (exC n s).toList ∧ w.rangeAt B (0 + 14) (exC m r).toList := by
  refine ⟨fun j v hv => ?_, fun j v hv => ?_⟩
  · have hj : j < 14 := by have := (List.getElem?_eq_some_iff.1 hv).1; rwa [exC_len] at this
    rw [h.at' (0 + j), Nat.zero_add, Array.getElem?_append_left (by rw [exC_size]; exact hj)]
    rw [← hv, Array.getElem?_toList]
  · have hj : j < 14 := by have := (List.getElem?_eq_some_iff.1 hv).1; rwa [exC_len] at this
    rw [h.at' (0 + 14 + j), Nat.zero_add, Array.getElem?_append_right (by rw [exC_size]; omega), exC_size, Nat.add_sub_cancel_left]
    rw [← hv, Array.getElem?_toList]
abbrev ndB2 (o : Int) : Nd := ⟨8, o, 0, no10, rf0, rf0, 0⟩
theorem Got.bin {w wr : World} {B g c mB j o lo N : Nat} {l : List Wd} {n m : Nd} {s r : Value} {t u : Ex} {bs bu : List Nat} {op : Int} (h : Got w wr B g c mB l j o lo (exV n s) t bs) (ou : Ow wr (exV m r) u bu) (ndu : bu.Nodup) (au : ∀ k ∈ bu, N ≤ k ∧ k < wr.heap.size) (hN : ∀ k ∈ bs, k < N) (hl : lo ≤ N) (hl2 : lo ≤ wr.heap.size) (hs : SmE u) :
    Got w (wr.alloc (.cells (exC n s ++ exC m r) 30)) B g c mB l j o lo (exV (ndB2 op) (.slice (some ⟨wr.heap.size, 0, none⟩) 2 2)) (binX op t u) (wr.heap.size :: (bs ++ bu)) := by
  have hb := step (Below.refl wr.heap.size wr) (.cells (exC n s ++ exC m r) 30)
  have kb := Blk.new wr (exC n s ++ exC m r) 30
  have hz : (wr.alloc (.cells (exC n s ++ exC m r) 30)).heap.size = wr.heap.size + 1 := by simp
  refine ⟨grown_trans h.gr (grown_of hb _), h.rd.keep hb, ?_, ?_, ?_, ?_⟩
  · unfold binX Ow
    refine ⟨_, _, _, rfl, rfl, .inr ⟨wr.heap.size, exC n s ++ exC m r, bs ++ bu, rfl, rfl, kb, by rw [Array.size_append, exC_size, exC_size], ⟨Nat.le_refl _, by decide⟩, ?_⟩⟩
    unfold OwL
    refine ⟨exC n s, bs, bu, rfl, h.ow.move _ (fun k hk => hb.block k (h.at' k hk).2), (row2p kb).1, ?_⟩
    unfold OwL
    refine ⟨exC m r, bu, [], by simp, ou.move _ (fun k hk => hb.block k (au k hk).2), (row2p kb).2, ?_⟩
    unfold OwL
    rfl
  · refine List.nodup_cons.2 ⟨fun hk => ?_, List.nodup_append.2 ⟨h.nd, ndu, fun a ha b hb e => ?_⟩⟩
    · rcases List.mem_append.1 hk with hk | hk
      · have := (h.at' _ hk).2; omega
      · have := (au _ hk).2; omega
    · have := hN a ha; have := (au b hb).1; omega
  · intro k hk
    rw [hz]
    rcases List.mem_cons.1 hk with rfl | hk
    · exact ⟨hl2, Nat.lt_succ_self _⟩
    · rcases List.mem_append.1 hk with hk | hk
      · have := h.at' k hk; omega
      · have := au k hk; omega
  · unfold binX SmE
    refine ⟨Nat.zero_le _, Nat.le_of_lt (Nat.lt_of_le_of_lt (Nat.le_refl 2) (by decide)), ?_⟩
    unfold SmL
    refine ⟨h.sm, ?_⟩
    unfold SmL
    exact ⟨hs, by unfold SmL; trivial⟩
theorem OpsM.low {w w' : World} {mB : Nat} (h : OpsM w mB) (hb : Below w.heap.size w w') : OpsM w' mB := (hb.block mB (Array.getElem?_eq_some_iff.1 h).1).trans h
variable {B g c mB : Nat} {l : List Wd} {i o : Nat} {Fd : List UInt8 → Option (Int × Int × Int)}
set_option maxHeartbeats 1000000 in
set_option maxRecDepth 100000 in
theorem line_bad (hi : i < l.length) {n : Nat} (hn : n ≤ 5) {er at' : Nat} (HP : CallP 79 B g c mB l i o [.int .i64 ((n + 1 : Nat) : Int)] (.bad er at')) : CallP 79 B g c mB l i o [.int .i64 (n : Int)] (.bad er at') := by
  intro w hR hM
  have st := step (Below.refl w.heap.size w) z14O
  have H1 := hide (HP (w.alloc z14O) (hR.keep st) (hM.keep hR (grown_of st _)))
  have p1 : ¬ (5 : Int) < (n : Int) := by omega
  have wk : wrap64 ((n : Int) + 1) = ((n + 1 : Nat) : Int) := by rw [IntWalk.wrap64_in ((n : Int) + 1) ⟨by omega, by omega⟩]; rfl
  replace st := hide st
  clear hM HP hR
  go_enter Tryz.func79, Tryz.ntmps79
  go_wp2_with fail
  refine H1.out.mono ?_
  rintro e w1 ⟨rfl, hg⟩
  exact ⟨rfl, rfl, grown_trans (grown_of st.out _) hg⟩
end Go.Proofs.YtdlomdbmmhjppaaGreatDoor.T9
namespace Go.Proofs.YtdlomdbmmhjppaaGreatDoor.T9
open Go.RowKit Go.Sort
set_option linter.unusedVariables false

theorem opOf_ne {s : List UInt8} (h : 1 ≤ (opOf s).1) : s ≠ [] := fun e => by subst e; exact absurd h (by decide)
abbrev opCl (s : List UInt8) : Array Value := #[.int .i64 ((opOf s).1 : Int), .int .i64 (opOf s).2]
abbrev opZ : Array Value := #[.int .i64 0, .int .i64 0]
variable {B g c mB : Nat} {l : List Wd} {i o : Nat} {Fd : List UInt8 → Option (Int × Int × Int)}
set_option maxHeartbeats 4000000 in
set_option maxRecDepth 100000 in
theorem line_ok (hE : EndW l) (hi : i < l.length) {n f : Nat} (h1n : 1 ≤ n) (hn : n ≤ 5) {t0 : Ex} {j0 : Nat} (h0 : i < j0 → j0 < l.length → 8 * (l.length - j0) + 1 ≤ f) {R : PR} (RS : Nat → Ex → Nat → PR) (LN : Nat → Nat → PR) (hR0 : RS f t0 j0 = R)
    (hSt : ∀ f' t j, RS (f' + 1) t j = if (opOf (sgAt l j)).1 = n then (match LN f' (j + 1) with | .bad e a => .bad e a | .ok u k => RS f' (binX (opOf (sgAt l j)).2 t u) k) else .ok t j)
    (HP : CallP 79 B g c mB l i o [.int .i64 ((n + 1 : Nat) : Int)] (.ok t0 j0))
    (HL : ∀ f' j, f' < f → i < j → j < l.length → 8 * (l.length - j) + 8 - n ≤ f' → CallP 79 B g c mB l j o [.int .i64 ((n + 1 : Nat) : Int)] (LN f' j)) : CallP 79 B g c mB l i o [.int .i64 (n : Int)] R := by
  intro w hR hM
  have st := step (Below.refl w.heap.size w) z14O
  have H1 := hide (HP (w.alloc z14O) (hR.keep st) (hM.keep hR (grown_of st _)))
  have hRa := hide (hR.keep st)
  have hMa := hide (hM.keep hR (grown_of st _))
  have hB := hide hR.lt
  have hgl := hide (hR.glt hi)
  have p1 : ¬ (5 : Int) < (n : Int) := by omega
  have wk : wrap64 ((n : Int) + 1) = ((n + 1 : Nat) : Int) := by rw [IntWalk.wrap64_in ((n : Int) + 1) ⟨by omega, by omega⟩]; rfl
  have ec : ((n + 1 : Nat) : Int) = (n : Int) + 1 := by omega
  simp only [ec] at H1 HL
  clear ec wk
  replace st := hide st
  replace HL := hide HL
  replace hE := hide hE
  replace h0 := hide h0
  replace hR0 := hide hR0
  replace hSt := hide hSt
  clear hM HP hR
  go_enter Tryz.func79, Tryz.ntmps79
  go_wp2_with fail
  refine H1.out.mono ?_
  rintro e w1 ⟨a, len, cap, bs0, rfl, hN, hO, hij, hjl, hsm⟩
  have G1 := hide ((Got.of (lo := w.heap.size + 1) ⟨rfl, rfl, rfl, Nat.le_refl _, fun _ _ _ => rfl⟩ hN hO hsm (by simp)).keep (step (Below.refl _ w1) (exO t0.nd (.slice a len cap))))
  have K1 := hide (Blk.new w1 (exC t0.nd (.slice a len cap)) 30)
  have hbs := hide (fun k (hk : k ∈ bs0) => (Nat.ne_of_lt (hN.at' k hk).2))
  have hJ1 := hide (show i < j0 ∧ j0 < l.length from ⟨hij, hjl⟩)
  have hX : Hid (w.heap.size + 1 ≤ w1.heap.size) := hide (by have h9 := hO.gr.size; have e9 : (w.alloc z14O).heap.size = w.heap.size + 1 := (by simp); omega)
  have hsn := run_putnew w1 t0.nd a len cap
  have hBX : Hid (B ≠ w1.heap.size ∧ g ≠ w1.heap.size ∧ (w.alloc z14O).heap.size ≤ w1.heap.size) := hide ⟨by have := hB.out; have := hX.out; omega, by have := hgl.out; have := hX.out; omega, hO.gr.size⟩
  clear hN hO hij hjl hsm H1
  go_wp2_with fail
  clear hsn
  go_loopw [] (fun wr => ∃ (f' j : Nat) (t : Ex) (sa : Option Addr) (sl sc : Nat) (bs : List Nat), Hid (Got (w.alloc z14O) wr B g c mB l j o (w.heap.size + 1) (exV t.nd (.slice sa sl sc)) t bs) ∧ Hid (Blk wr w1.heap.size (exC t.nd (.slice sa sl sc)) 30) ∧ Hid (∀ k ∈ bs, k ≠ w1.heap.size) ∧ Hid (RS f' t j = R) ∧ Hid (i < j ∧ j < l.length ∧ f' ≤ f ∧ 8 * (l.length - j) + 1 ≤ f')) (fun wr => l.length - nextOf wr B)
  case atStart => exact ⟨f, j0, t0, a, len, cap, bs0, G1, K1, hbs, hR0, hide ⟨hJ1.out.1, hJ1.out.2, Nat.le_refl _, h0.out hJ1.out.1 hJ1.out.2⟩⟩
  case round =>
    obtain ⟨f', j, t, sa, sl, sc, bs, HG, HK, HN, HF, HJ⟩ := hrel
    have hM2 := hide (hMa.out.keep hRa.out HG.out.gr)
    have S1 := hide (fun w' (hb : Below wr.heap.size wr w') => sign_any (HG.out.rd.keep hb) HJ.out.2.1)
    have b3 : wr.cell? ⟨B, 3, none⟩ = some (.map (some mB)) := HG.out.rd.blk.at' 3
    have b3' := keep1 (step (Below.refl wr.heap.size wr) (.cells opZ 130)) b3
    obtain ⟨sg, hsg⟩ : ∃ sg, sgAt l j = sg := ⟨_, rfl⟩
    rw [hsg] at S1
    go_upto_region 4 with fail
    go_cut [6] from 16 to 22 (fun c6 wx => ∃ X6 : Nat, c6 = .pointer (some ⟨X6, 0, none⟩) ∧ Hid (Below wr.heap.size wr wx) ∧ Hid (Blk wx X6 (opCl sg) 130) ∧ Hid (wr.heap.size ≤ X6))
    case first =>
      go_region_with (first
        | (go_at_call 104; (refine (S1.out _ (by first | (with_reducible exact Below.refl _ _) | (with_reducible exact (Below.refl _ _).drew) | (with_reducible exact step (Below.refl _ _).drew _) | (with_reducible exact (step (Below.refl _ _) _).drew) | (with_reducible exact step (Below.refl _ _) _))).mono ?_; rintro e w5 ⟨rfl, hb5⟩; have hbw : Below wr.heap.size wr w5 := next (by first | (with_reducible exact Below.refl _ _) | (with_reducible exact (Below.refl _ _).drew) | (with_reducible exact step (Below.refl _ _).drew _) | (with_reducible exact (step (Below.refl _ _) _).drew) | (with_reducible exact step (Below.refl _ _) _)) hb5; have hlk0 := look_ops sg w5 mB (hM2.out.low hbw); have hlk1 := look_ops sg (w5.alloc (.cells opZ 130)) mB (hM2.out.low (step hbw _)); have b5 := keep1 hbw b3; have b5' := keep1 (step hbw (.cells opZ 130)) b3; (try (have Z5 : Hid (Blk w5 wr.heap.size opZ 130) := hide (Blk.keep (by first | (with_reducible exact Blk.new _ _ _) | (exact Blk.new wr opZ 130)) hb5); have z0 : w5.cell? ⟨wr.heap.size, 0, none⟩ = some (.int .i64 0) := Z5.out.at' 0; have z1 : w5.cell? ⟨wr.heap.size, 1, none⟩ = some (.int .i64 0) := Z5.out.at' 1; have y0 := Z5.out.fr 0; have y1 := Z5.out.fr 1; have zl := Z5.out.lt)); replace hbw := hide hbw)))
      all_goals (go_wp2_with fail)
      all_goals go_meet
      all_goals (first
        | exact ⟨_, rfl, hide (step hbw.out _), hide (Blk.new w5 (opCl sg) _), hide hbw.out.size⟩
        | exact ⟨_, rfl, hide ((hbw.out.setCell (p := ⟨wr.heap.size, 0, none⟩) (Nat.le_refl _) _).setCell (p := ⟨wr.heap.size, 1, none⟩) (Nat.le_refl _) _), hide ((Z5.out.set 0 _).set 1 _), hide (Nat.le_refl _)⟩)
    case rest =>
      obtain ⟨X6, rfl, HB6, K6, hX6⟩ := hcut
      clear b3 b3' S1
      have G6 := hide (HG.out.keep HB6.out)
      have KX := hide (HK.out.keep HB6.out)
      have M6 := hide (hM2.out.low HB6.out)
      have c60 : wc.cell? ⟨X6, 0, none⟩ = some (.int .i64 ((opOf sg).1 : Int)) := K6.out.at' 0
      have hBX6 : Hid (B ≠ X6) := hide (by have := HG.out.rd.lt; have := hX6.out; omega)
      obtain ⟨f', rfl⟩ : ∃ f2, f' = f2 + 1 := ⟨f' - 1, by have := HJ.out; omega⟩
      have hS := hSt.out f' t j
      rw [HF.out, hsg] at hS
      by_cases hq : (opOf sg).1 = n
      · rw [if_pos hq] at hS
        have hj1 := hide (hE.out.sg HJ.out.2.1 hsg (opOf_ne (by omega)))
        have hq' : (((opOf sg).1 : Int) == (n : Int)) = true := by rw [hq]; exact beq_self_eq_true _
        have hq'' : (((opOf sg).1 : Int) != (n : Int)) = false := by rw [bne, hq']; rfl
        obtain ⟨w4, hw4⟩ : ∃ w4, wc.setCell ⟨B, 1, none⟩ (.int .i64 (wrap64 ((j : Int) + 1))) = w4 := ⟨_, rfl⟩
        have c1 := G6.out.rd.at1
        have f1 := G6.out.rd.fr1 1
        have O4 := hide (next4 G6.out.rd HJ.out.2.1 hw4)
        have G4 := hide (G6.out.on (by have := hB.out; omega) O4.out)
        have K4 := hide (blk_on KX.out hBX.out.1 O4.out.gr)
        have K64 := hide (blk_on K6.out hBX6.out O4.out.gr)
        have M4 := hide (M6.out.keep G6.out.rd O4.out.gr)
        have H7 := hide (HL.out f' (j + 1) (by have := HJ.out; omega) (by have := HJ.out; omega) hj1.out (by have := HJ.out; omega) w4 O4.out.rd M4.out)
        cases hr : LN f' (j + 1) with
        | bad er at' =>
          rw [hr] at hS H7
          subst hS
          go_wp2_with fail
          refine H7.out.mono ?_
          rintro e w7 ⟨rfl, hg7⟩
          exact ⟨rfl, rfl, grown_trans (grown_of st.out _) (grown_trans G4.out.gr hg7)⟩
        | ok u k =>
          rw [hr] at hS H7
          go_wp2_with fail
          refine H7.out.mono ?_
          rintro e w7 ⟨a7, l7, c7, bu, rfl, hN7, hO7, hjk, hkl, hsm7⟩
          have hbu := hide (fun x (hx : x ∈ bu) => hN7.at' x hx)
          have hw4s := hide hO7.gr.size
          have G8 := hide ((G4.out.on (by have := hB.out; omega) hO7).keep (step (Below.refl _ w7) (exO u.nd (.slice a7 l7 c7))))
          have K8 := hide ((blk_on K4.out hBX.out.1 hO7.gr).alloc (exO u.nd (.slice a7 l7 c7)))
          have K68 := (blk_on K64.out hBX6.out hO7.gr).alloc (exO u.nd (.slice a7 l7 c7))
          have c61 : (w7.alloc (exO u.nd (.slice a7 l7 c7))).cell? ⟨X6, 1, none⟩ = some (.int .i64 (opOf sg).2) := K68.at' 1
          have K78 := hide (Blk.new w7 (exC u.nd (.slice a7 l7 c7)) 30)
          have ou8 := hide (hN7.ow.move _ (fun x hx => (step (Below.refl w7.heap.size w7) (exO u.nd (.slice a7 l7 c7))).block x (hN7.at' x hx).2))
          have ndu := hide hN7.nd
          have hsn7 := run_putnew w7 u.nd a7 l7 c7
          have hz8 : (w7.alloc (exO u.nd (.slice a7 l7 c7))).heap.size = w7.heap.size + 1 := by simp
          have hz8' := hide hz8
          have X9 : Hid (((w7.alloc (exO u.nd (.slice a7 l7 c7))).alloc (.cells (exC t.nd (.slice sa sl sc) ++ exC u.nd (.slice a7 l7 c7)) 30)).heap[w1.heap.size]? = some (.cells (exC t.nd (.slice sa sl sc)) 30 (0, 0))) := hide (K8.out.alloc _)
          have hX4 : Hid (w1.heap.size < w4.heap.size ∧ w.heap.size + 1 ≤ w4.heap.size) := hide ⟨K4.out.lt, by have := K4.out.lt; have := hX.out; omega⟩
          have hjk' := hide (show i < k ∧ k < l.length ∧ j + 1 < k from ⟨by have := HJ.out; omega, hkl, hjk⟩)
          have hsm7' := hide hsm7
          clear hN7 hO7 hjk hkl hsm7 K68 hz8 c1 f1
          go_wp2_with (first
            | (refine wpList_load_blk rfl 30 _ rfl _ rfl _ (by with_reducible exact K8.out) _ Tryz.underlying30 rfl (exC_info _ _) ?_)
            | (refine wpList_load_blk rfl 30 _ rfl _ rfl _ (by with_reducible exact K78.out) _ Tryz.underlying30 rfl (exC_info _ _) ?_)
            | (refine Go.Great.wpList_buildSliceTo rfl 28 30 2 _ rfl (w7.heap.size + 1) (by simp) _ rfl Tryz.underlying28 (exC t.nd (.slice sa sl sc) ++ exC u.nd (.slice a7 l7 c7)) (by rw [Array.toList_map]; exact built2p _ _ _ _) ?_)
            | (refine wpList_store_row rfl 30 _ _ rfl _ (exC (ndB2 (opOf sg).2) (.slice (some ⟨w7.heap.size + 1, 0, none⟩) 2 2)) rfl rfl 30 _ (by with_reducible exact X9.out) (exC_info _ _) (by rfl) (exC_one _ _ _ _) ?_))
          have hg9 := Got.bin (op := (opOf sg).2) (N := w4.heap.size) G8.out ou8.out ndu.out (fun x hx => ⟨(hbu.out x hx).1, by have := (hbu.out x hx).2; rw [hz8'.out]; omega⟩) (fun x hx => (G4.out.at' x hx).2) hX4.out.2 (by rw [hz8'.out]; have := hX4.out; have := hw4s.out; omega) hsm7'.out
          rw [hz8'.out] at hg9
          have hN9 : ∀ x ∈ (w7.heap.size + 1) :: (bs ++ bu), x ≠ w1.heap.size := fun x hx => by
            rcases List.mem_cons.1 hx with rfl | hx
            · have := hX4.out; have := hw4s.out; omega
            · rcases List.mem_append.1 hx with hx | hx
              · exact HN.out x hx
              · have := (hbu.out x hx).1; have := hX4.out; omega
          have G10 := hide (hg9.put (X := w1.heap.size) (cs := exC (ndB2 (opOf sg).2) (.slice (some ⟨w7.heap.size + 1, 0, none⟩) 2 2)) hBX.out.2.2 hBX.out.1 hBX.out.2.1 hN9)
          clear hg9
          refine ⟨?_, ?_⟩
          · iterate 31 apply Exists.intro
            refine ⟨⟨f', k, binX (opOf sg).2 t u, some ⟨w7.heap.size + 1, 0, none⟩, 2, 2, _, G10, hide (setRow_heap _ _ _ _ _ _ X9.out), hide hN9, hide hS.symm, hide ⟨hjk'.out.1, hjk'.out.2.1, by have := HJ.out; omega, by have := HJ.out; have := hjk'.out; omega⟩⟩, ?_⟩
            rfl
          · rw [nextOf_is G10.out.rd, nextOf_is HG.out.rd]
            have := hjk'.out
            omega
      · rw [if_neg hq] at hS
        subst hS
        have hq' : (((opOf sg).1 : Int) == (n : Int)) = false := by rw [beq_eq_false_iff_ne]; omega
        have hq'' : (((opOf sg).1 : Int) != (n : Int)) = true := by rw [bne, hq']; rfl
        have F3 := hide (fun cs => G6.out.fin (cs := cs) hB.out hgl.out)
        have hsn3 := run_putrow t.nd sa sl sc (F3.out z14).1 rfl
        go_wp2_with (first
          | (refine wpList_load_blk rfl 30 _ rfl _ rfl _ (by with_reducible exact KX.out) _ Tryz.underlying30 rfl (exC_info _ _) ?_))
        refine bodyPost_ret (v := exV t.nd (.slice sa sl sc)) (results_cell_row Tryz.results79 _ _ w.heap.size 30 (exC t.nd (.slice sa sl sc)) (0, 0) _ rfl (F3.out _).2.2.2 Tryz.underlying30 rfl (exC_info _ _)) rfl ?_
        exact ⟨sa, sl, sc, bs, rfl, (F3.out _).2.1, (F3.out _).2.2.1, HJ.out.1, HJ.out.2.1, G6.out.sm⟩
end Go.Proofs.YtdlomdbmmhjppaaGreatDoor.T9
