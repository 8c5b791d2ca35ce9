/- parse: a value with its signs. Proved of the Go text. -/
import Derived.Test.YtdlomdbmmhjppaaGreatDoorPxJ
namespace Go.Proofs.YtdlomdbmmhjppaaGreatDoor.T9
open Go.RowKit Go.Sort
set_option linter.unusedVariables false

theorem blk14 {w : World} {B : Nat} {n : Nd} {s : Value} {t : TypeId} (h : Blk w B (exC n s) t) :
    w.cell? ⟨B, 0, none⟩ = some (.int .i64 n.kind) ∧ w.cell? ⟨B, 1, none⟩ = some (.int .i64 n.op) ∧ w.cell? ⟨B, 2, none⟩ = some (.int .i64 n.num) ∧ w.cell? ⟨B, 3, none⟩ = some (.string n.text) ∧ w.cell? ⟨B, 4, none⟩ = some (.int .i64 n.ref.row) ∧ w.cell? ⟨B, 5, none⟩ = some (.int .i64 n.ref.col) ∧ w.cell? ⟨B, 6, none⟩ = some (.bool n.ref.pr) ∧ w.cell? ⟨B, 7, none⟩ = some (.bool n.ref.pc) ∧
    w.cell? ⟨B, 8, none⟩ = some (.int .i64 n.to.row) ∧ w.cell? ⟨B, 9, none⟩ = some (.int .i64 n.to.col) ∧ w.cell? ⟨B, 10, none⟩ = some (.bool n.to.pr) ∧ w.cell? ⟨B, 11, none⟩ = some (.bool n.to.pc) ∧ w.cell? ⟨B, 12, none⟩ = some (.int .i64 n.fn) ∧ w.cell? ⟨B, 13, none⟩ = some s :=
  ⟨h.at' 0, h.at' 1, h.at' 2, h.at' 3, h.at' 4, h.at' 5, h.at' 6, h.at' 7, h.at' 8, h.at' 9, h.at' 10, h.at' 11, h.at' 12, h.at' 13⟩
theorem _root_.Go.Proofs.YtdlomdbmmhjppaaGreatDoor.Rdr.wdm {w : World} {B g c mB i o m : Nat} {l : List Wd} (h : Rdr w B g c mB l i o) (hm : m < l.length) : WdAt w g m (wdAt l m) := by
  obtain ⟨_, h0 | ⟨g', e, hj⟩⟩ := h.words
  · rw [h0] at hm; exact absurd hm (Nat.not_lt_zero _)
  · cases e
    have := hj m hm
    unfold wdAt
    rwa [List.getD_eq_getElem?_getD, List.getElem?_eq_getElem hm]
theorem sgnOf_ne {s : List UInt8} (h : sgnOf s ≠ 0) : s ≠ [] := fun e => h (by subst e; rfl)
abbrev pS : List UInt8 → Bool := fun s => sgnOf s != 0
theorem runS_yes {l : List Wd} {f j : Nat} (h : sgnOf (sgAt l j) ≠ 0) : runW l pS (f + 1) j = runW l pS f (j + 1) := by rw [runW, if_pos (bne_iff_ne.2 h)]
theorem runS_no {l : List Wd} {f j : Nat} (h : ¬ sgnOf (sgAt l j) ≠ 0) : runW l pS f j = j := by
  cases f with
  | zero => rfl
  | succ f => rw [runW, if_neg (fun e => h (bne_iff_ne.1 e))]
theorem _root_.Go.Proofs.YtdlomdbmmhjppaaGreatDoor.On.keep {w w1 w' : World} {B g c mB i o : Nat} {l : List Wd} (h : On w w1 B g c mB l i o) (hb : Below w1.heap.size w1 w') : On w w' B g c mB l i o := ⟨h.rd.keep hb, grown_trans h.gr (grown_of hb _)⟩
theorem _root_.Go.Proofs.YtdlomdbmmhjppaaGreatDoor.On.trans {w w1 w' : World} {B g c mB i o i' o' : Nat} {l : List Wd} (h : On w w1 B g c mB l i o) (h' : On w1 w' B g c mB l i' o') : On w w' B g c mB l i' o' := ⟨h'.rd, grown_trans h.gr h'.gr⟩
/-- What signs make of a reading. -/
def sgnR (l : List Wd) (i J : Nat) : PR → PR
  | .bad e a => .bad e a
  | .ok t j => .ok (signsX l i (J - i) t) j
variable {B g c mB : Nat} {l : List Wd} {i o : Nat}
set_option maxHeartbeats 2000000 in
set_option maxRecDepth 100000 in
theorem signed_is (hE : EndW l) (hi : i < l.length) {r : PR} (HP : CallP 131 B g c mB l (runW l pS l.length i) o [] r) : CallP 103 B g c mB l i o [] (sgnR l i (runW l pS l.length i) r) := by
  intro w hR hM
  have hB := hR.lt
  have hgl := hR.glt hi
  obtain ⟨J, hJ⟩ : ∃ J, runW l pS l.length i = J := ⟨_, rfl⟩
  have hiJ := runW_ge l pS l.length i
  rw [hJ] at HP hiJ ⊢
  have st := step (Below.refl w.heap.size w) z14O
  have hR0 := hR.keep st
  have On0 := hide (show On (w.alloc z14O) (w.alloc z14O) B g c mB l i o from ⟨hR0, ⟨rfl, rfl, rfl, Nat.le_refl _, fun _ _ _ => rfl⟩⟩)
  have c1 := hR0.at1
  have H1 := hide HP
  have hM1 := hide (hM.keep hR (grown_of st _))
  have hl5 := hide (hR.len)
  replace st := hide st
  have hJ' := hide hJ
  have hBh := hide hB
  have hgh := hide hgl
  have hiJ' := hide hiJ
  replace hE := hide hE
  clear hM HP hJ hB hgl hR hR0 hiJ
  go_enter Tryz.func103, Tryz.ntmps103
  go_wp2_with fail
  clear c1
  go_loopw [] (fun wr => ∃ j : Nat, Hid (On (w.alloc z14O) wr B g c mB l j o) ∧ Hid (∃ f, runW l pS f j = J ∧ l.length ≤ f + j) ∧ Hid (i ≤ j ∧ j < l.length)) (fun wr => l.length - nextOf wr B)
  case atStart => exact ⟨i, On0, hide ⟨_, hJ'.out, by omega⟩, hide ⟨Nat.le_refl _, hi⟩⟩
  case round =>
    obtain ⟨j, HO, HF, HJ⟩ := hrel
    have S1 := hide (sign_any HO.out.rd HJ.out.2)
    have S2 := hide (fun w => signNumber_any (sgAt l j) w)
    by_cases hq : sgnOf (sgAt l j) = 0
    · have hq' : (sgnOf (sgAt l j) == 0) = true := by rw [hq]; rfl
      obtain ⟨f, hf, -⟩ := HF.out
      rw [runS_no (fun h => h hq)] at hf
      obtain rfl : j = J := hf
      replace hq := hide hq
      generalize sgAt l j = sg at S1 S2 hq'
      go_wp2_with (first
        | (go_at_call 104; refine S1.out.mono ?_; rintro e w3 ⟨rfl, hb3⟩; have O3 := hide (HO.out.keep hb3); have c1 := O3.out.rd.at1; have H3 := hide (H1.out w3 O3.out.rd (hM1.out.keep On0.out.rd O3.out.gr)); replace hb3 := hide hb3)
        | (go_at_call 130; refine (S2.out _).mono ?_; rintro e w4 ⟨rfl, rfl⟩))
      cases r with
      | bad er at' =>
        refine H3.out.mono ?_
        rintro e w5 ⟨rfl, hg⟩
        exact ⟨rfl, rfl, grown_trans (grown_of st.out _) (grown_trans O3.out.gr hg)⟩
      | ok t0 j0 =>
        refine H3.out.mono ?_
        rintro e w5 ⟨a, len, cap, bs0, rfl, hN, hO, hij, hjl, hsm⟩
        have G1 := hide ((Got.of (lo := w.heap.size + 1) O3.out.gr hN hO hsm (by have := O3.out.gr.size; simp at this; omega)).keep (step (Below.refl _ w5) (exO t0.nd (.slice a len cap))))
        have K1 := hide (Blk.new w5 (exC t0.nd (.slice a len cap)) 30)
        have hbs := hide (fun k (hk : k ∈ bs0) => (Nat.ne_of_lt (hN.at' k hk).2))
        have hJ0 := hide (show j < j0 ∧ j0 < l.length from ⟨hij, hjl⟩)
        have hX : Hid (w.heap.size + 1 ≤ w5.heap.size) := hide (by have h1 := O3.out.gr.size; have h2 := hO.gr.size; simp at h1; omega)
        have hsn := run_putnew w5 t0.nd a len cap
        have hBX : Hid (B ≠ w5.heap.size ∧ g ≠ w5.heap.size) := hide ⟨by have := hBh.out; have := hX.out; omega, by have := hgh.out; have := hX.out; omega⟩
        have hjl5 := hide (show j < l.length ∧ l.length ≤ 100000 from ⟨HJ.out.2, hl5.out.1⟩)
        clear hN hO hij hjl hsm hM1 HJ HO
        obtain ⟨tF, hF⟩ : ∃ tF, signsX l i (j - i) t0 = tF := ⟨_, rfl⟩
        have hF' := hide hF
        have hRr := hide (show sgnR l i j (.ok t0 j0) = .ok tF j0 by rw [← hF]; rfl)
        clear hF
        have wk0 := IntWalk.wrap64_in ((j : Int) - 1) ⟨by have := hjl5.out; omega, by have := hjl5.out; omega⟩
        go_wp2_with fail
        go_loopw [6] (fun iv wr => ∃ (k : Nat) (t : Ex) (sa : Option Addr) (sl sc : Nat) (bs : List Nat), iv = .int .i64 (((i + k : Nat) : Int) - 1) ∧ Hid (Got (w.alloc z14O) wr B g c mB l j0 o (w.heap.size + 1) (exV t.nd (.slice sa sl sc)) t bs) ∧ Hid (Blk wr w5.heap.size (exC t.nd (.slice sa sl sc)) 30) ∧ Hid (∀ k ∈ bs, k ≠ w5.heap.size) ∧ Hid (signsX l i k t = tF) ∧ Hid (i + k ≤ j)) (fun iv _ => (intOf iv + 1 - i).toNat)
        case atStart => exact ⟨j - i, t0, a, len, cap, bs0, by rw [wk0, Nat.add_sub_cancel' hiJ'.out], G1, K1, hbs, hF', hide (by have := hiJ'.out; omega)⟩
        case round =>
          obtain ⟨k, t, sa, sl, sc, bs, rfl, HG, HK, HN, HF, HJ⟩ := hrel
          by_cases hk : k = 0
          · subst hk
            obtain ⟨q, hq⟩ : ∃ q : Int, q = ((i + 0 : Nat) : Int) - 1 := ⟨_, rfl⟩
            rw [← hq]
            have p1 : ¬ (i : Int) ≤ q := by omega
            have hFt : t = tF := HF.out
            subst hFt
            have F3 := hide (fun cs => HG.out.fin (cs := cs) hBh.out hgh.out)
            have hsn3 := run_putrow t.nd sa sl sc (F3.out z14).1 rfl
            clear hq
            go_wp2_with (first
              | (refine wpList_load_blk rfl 30 _ rfl _ rfl _ (by with_reducible exact HK.out) _ Tryz.underlying30 rfl (exC_info _ _) ?_))
            refine bodyPost_ret (v := exV t.nd (.slice sa sl sc)) (results_cell_row Tryz.results103 _ _ w.heap.size 30 (exC t.nd (.slice sa sl sc)) (0, 0) _ rfl (F3.out _).2.2.2 Tryz.underlying30 rfl (exC_info _ _)) rfl ?_
            rw [hRr.out]
            exact ⟨sa, sl, sc, bs, rfl, (F3.out _).2.1, (F3.out _).2.2.1, Nat.lt_of_le_of_lt hiJ'.out hJ0.out.1, hJ0.out.2, HG.out.sm⟩
          · obtain ⟨k, rfl⟩ : ∃ k', k = k' + 1 := ⟨k - 1, by omega⟩
            obtain ⟨m, hm⟩ : ∃ m, m = i + k := ⟨_, rfl⟩
            have e1 : (((i + (k + 1) : Nat) : Int) - 1) = (m : Int) := by omega
            have p1 : (i : Int) ≤ (m : Int) := by omega
            have hml : Hid (m < l.length) := hide (by have := HJ.out; have := hjl5.out; omega)
            have p2 : (m : Int) < (l.length : Int) := by have := hml.out; omega
            rw [e1]
            have p0 : (0 : Int) ≤ (m : Int) := by omega
            have p3 : (l.length : Int) ≤ (c : Int) := by have := hl5.out; omega
            have wk := IntWalk.wrap64_in ((m : Int) - 1) ⟨by omega, by have := hml.out; have := hjl5.out; omega⟩
            have S2 := hide (fun w => signNumber_any (wdAt l m).text w)
            have HGd := hide (HG.out.keep (Below.refl _ wr).drew)
            have HKd := hide (HK.out.keep (Below.refl _ wr).drew)
            have H5 := hide (unary_any (sgnOf (wdAt l m).text) t.nd sa sl sc t bs wr.drew HGd.out.ow (fun x hx => (HGd.out.at' x hx).2))
            clear wk0
            replace hm := hide hm
            go_wp2_with fail
            have b0 : wr.cell? ⟨B, 0, none⟩ = some (.slice (some ⟨g, 0, none⟩) l.length c) := HG.out.rd.blk.at' 0
            obtain ⟨k0, k1, k2⟩ := HG.out.rd.wdm hml.out
            obtain ⟨x0, x1, x2, x3, x4, x5, x6, x7, x8, x9, x10, x11, x12, x13⟩ := blk14 HK.out
            refine still_tail 10 (by kernel_rfl) (by kernel_rfl) ?_
            simp only [List.take_succ_cons, List.take_zero, List.drop_succ_cons, List.drop_zero]
            repeat (first | still_step | still_call (S2.out _))
            refine wpStill_nil ?_
            clear x0 x1 x2 x3 x4 x5 x6 x7 x8 x9 x10 x11 x12 x13 b0 k0 k1 k2
            go_wp2_with (first
              | (go_at_call 132; (refine H5.out.mono ?_; rintro e w6 ⟨y, rfl, ho5, hy1, hy2, hb5⟩; have K5 := hide (HKd.out.keep hb5); have G5 := hide (HGd.out.un (op := sgnOf (wdAt l m).text) (by have h9 := HGd.out.gr.size; have e9 : (w.alloc z14O).heap.size = w.heap.size + 1 := (by simp); omega) ho5 hy1 hy2 hb5); have hsn5 := run_putrow (ndU (sgnOf (wdAt l m).text)) (some ⟨y, 0, none⟩) 1 1 K5.out rfl; have hyX := hide (show y ≠ w5.heap.size from fun e => by have := HKd.out.lt; omega); clear ho5 hy1 hy2; replace hb5 := hide hb5)))
            have hN6 : ∀ k ∈ y :: bs, k ≠ w5.heap.size := fun k hk => by
              rcases List.mem_cons.1 hk with rfl | hk
              · exact hyX.out
              · exact HN.out k hk
            have G6 := hide (G5.out.put (X := w5.heap.size) (cs := exC (ndU (sgnOf (wdAt l m).text)) (.slice (some ⟨y, 0, none⟩) 1 1)) (by have := hX.out; simp; omega) hBX.out.1 hBX.out.2 hN6)
            refine ⟨⟨k, unX (sgnOf (wdAt l m).text) t, some ⟨y, 0, none⟩, 1, 1, y :: bs, by rw [wk, hm.out], G6, hide (setRow_heap _ _ _ _ _ _ K5.out), hide hN6, hide ?_, hide (by have := HJ.out; omega)⟩, ?_⟩
            · have := HF.out
              rw [hm.out]
              exact this
            · rw [wk]
              simp only [intOf]
              have := hm.out
              omega
    · have hq' : (sgnOf (sgAt l j) == 0) = false := by rw [beq_eq_false_iff_ne]; exact hq
      have hj1 := hide (hE.out.sg HJ.out.2 rfl (sgnOf_ne hq))
      replace hq := hide hq
      generalize sgAt l j = sg at S1 S2 hq'
      go_wp2_with (first
        | (go_at_call 104; refine S1.out.mono ?_; rintro e w3 ⟨rfl, hb3⟩; have O3 := hide (HO.out.keep hb3); have c1 := O3.out.rd.at1; have f1 := O3.out.rd.fr1 1; replace hb3 := hide hb3; obtain ⟨w4, hw4⟩ : ∃ w4, w3.setCell ⟨B, 1, none⟩ (.int .i64 (wrap64 ((j : Int) + 1))) = w4 := ⟨_, rfl⟩; have O4 := hide (O3.out.trans (next4 O3.out.rd HJ.out.2 hw4)))
        | (go_at_call 130; refine (S2.out _).mono ?_; rintro e w4' ⟨rfl, rfl⟩))
      obtain ⟨f, hf, hl⟩ := HF.out
      obtain ⟨f, rfl⟩ : ∃ f', f = f' + 1 := ⟨f - 1, by have := HJ.out.2; omega⟩
      rw [runS_yes hq.out] at hf
      refine ⟨⟨j + 1, O4, hide ⟨f, hf, by omega⟩, hide ⟨by have := HJ.out.1; omega, hj1.out⟩⟩, ?_⟩
      rw [nextOf_is O4.out.rd, nextOf_is HO.out.rd]
      have := HJ.out.2
      omega
end Go.Proofs.YtdlomdbmmhjppaaGreatDoor.T9
