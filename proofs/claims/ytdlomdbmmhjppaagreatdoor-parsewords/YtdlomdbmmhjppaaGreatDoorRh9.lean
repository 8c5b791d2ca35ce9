/- parse.reference: two references that stand (written by gen10b.py). Proved of the Go text. -/
import Derived.Test.YtdlomdbmmhjppaaGreatDoorRfJ
namespace Go.Proofs.YtdlomdbmmhjppaaGreatDoor.T9
open Go.RowKit Go.Sort
set_option linter.unusedVariables false

variable {B g c mB : Nat} {l : List Wd} {i o : Nat}
set_option maxHeartbeats 4000000 in
set_option maxRecDepth 100000 in
theorem ref_two (hE : EndW l) (hi : i < l.length) (hk : (wdAt l i).kind = 3) (hs : (ba (wdAt l i).text).size ≤ maxLen) (hn : sgAt l (i + 1) = [58]) (hk2 : (wdAt l (i + 2)).kind = 3) (hs2 : (ba (wdAt l (i + 2)).text).size ≤ maxLen) : CallP 186 B g c mB l i o [] (.ok (match rdF (wdAt l i).text, rdF (wdAt l (i + 2)).text with | some a, some b => .mk (ndS2 a b) [] | _, _ => errRef) (i + 3)) := by
  intro w hR hM
  have hi1 := hE.adv hi (by rw [hk]; decide)
  have hi2 := hE.sg hi1 hn (by decide)
  have st := step (Below.refl w.heap.size w) z14O
  have HC := corner_yes (hR.keep st) hi hk hs
  have hB := hide hR.lt
  have hgl := hide (hR.glt hi)
  have hi3 := hide (hE.adv hi2 (by rw [hk2]; decide))
  obtain ⟨i1, e1⟩ : ∃ i1, i + 1 = i1 := ⟨_, rfl⟩
  obtain ⟨i2, e2⟩ : ∃ i2, i1 + 1 = i2 := ⟨_, rfl⟩
  have e3 : i + 2 = i2 := by omega
  rw [e1] at HC hn hi1
  rw [show i + 1 + 1 = i2 by omega] at hi2
  rw [show i + 2 + 1 = i + 3 by omega] at hi3
  rw [e3] at hk2 hs2
  replace HC := hide HC
  replace hi1 := hide hi1
  replace hi2 := hide hi2
  replace st := hide st
  have HD := hide (fun w' (h' : Rdr w' B g c mB l i2 o) => corner_yes h' hi2.out hk2 hs2)
  unfold rdF
  rw [e3]
  generalize rR (ba (wdAt l i).text) = r at *
  generalize rC (ba (wdAt l i).text) = cc at *
  generalize rP (ba (wdAt l i).text) = p at *
  generalize rQ (ba (wdAt l i).text) = q at *
  generalize rE (ba (wdAt l i).text) = er at *
  generalize rR (ba (wdAt l i2).text) = r2 at *
  generalize rC (ba (wdAt l i2).text) = cc2 at *
  generalize rP (ba (wdAt l i2).text) = p2 at *
  generalize rQ (ba (wdAt l i2).text) = q2 at *
  generalize rE (ba (wdAt l i2).text) = er2 at *
  have hq : (sgAt l i1 == ([58] : List UInt8)) = true := by rw [hn]; rfl
  have e2' := hide e2
  have e1' := hide e1
  clear hR hM hs hk hn e1 e2 e3 hk2 hs2
  by_cases he : er = 0
  · subst he
    rw [if_pos rfl]
    by_cases he2 : er2 = 0
    · subst he2
      rw [if_pos rfl]
      go_enter Tryz.func186, Tryz.ntmps186
      go_wp2_with (first
        | (go_at_call 208; refine HC.out.mono ?_; rintro e w1 ⟨rfl, hon⟩; have O2 := hide (hon.keep (step (step (Below.refl _ w1) (refO r cc p q)) (exO (ndS1 ⟨r, cc, p, q⟩) sN))); have K2 := hide (Blk.new1 w1 (refO r cc p q) (exC (ndS1 ⟨r, cc, p, q⟩) sN) 30); have S2 := hide (sign_any O2.out.rd hi1.out); generalize sgAt l i1 = sg at S2 hq; have hX1 := hide (show w.heap.size + 1 ≤ w1.heap.size from by have h9 := hon.gr.size; have e9 : (w.alloc z14O).heap.size = w.heap.size + 1 := (by simp); omega); replace hon := hide hon; clear HC)
        | (go_at_call 208; refine H6.out.mono ?_; rintro e w6 ⟨rfl, hon6⟩; have O6 := hide (O5.out.trans hon6); have K6 := hide (blk_on K5.out hBX.out.1 hon6.gr); obtain ⟨-, -, -, -, -, -, -, -, x8, x9, x10, x11, -, -⟩ := blk14 K6.out; have y8 := K6.out.fr 8; have y9 := K6.out.fr 9; have y10 := K6.out.fr 10; have y11 := K6.out.fr 11; obtain ⟨w7, hw7⟩ : ∃ w7, (((w6.setCell ⟨w1.heap.size + 1, 8, none⟩ (.int .i64 r2)).setCell ⟨w1.heap.size + 1, 9, none⟩ (.int .i64 cc2)).setCell ⟨w1.heap.size + 1, 10, none⟩ (.bool p2)).setCell ⟨w1.heap.size + 1, 11, none⟩ (.bool q2) = w7 := ⟨_, rfl⟩; have O7 := hide (show On (w.alloc z14O) w7 B g c mB l (i2 + 1) o from hw7 ▸ (((O6.out.cellX hBX.out.2.2 hBX.out.1 hBX.out.2.1).cellX hBX.out.2.2 hBX.out.1 hBX.out.2.1).cellX hBX.out.2.2 hBX.out.1 hBX.out.2.1).cellX hBX.out.2.2 hBX.out.1 hBX.out.2.1); have F7 := hide (fun cs => O7.out.fin cs hB.out hgl.out); clear hon6; have K7 := hide (show Blk w7 (w1.heap.size + 1) (exC (ndS2 ⟨r, cc, p, q⟩ ⟨r2, cc2, p2, q2⟩) sN) 30 from hw7 ▸ (((K6.out.set 8 _).set 9 _).set 10 _).set 11 _); have hsn7 := run_putrow (ndS2 ⟨r, cc, p, q⟩ ⟨r2, cc2, p2, q2⟩) none 0 0 (F7.out z14).1 rfl)
        | (refine wpList_store_new rfl 30 _ _ rfl z14 (exC (ndS1 ⟨r, cc, p, q⟩) sN) (w1.heap.size + 1) rfl (by simp) rfl (exC_info _ _) (by rfl) (exC_one _ _ _ _) ?_)
        | (go_at_call 104; refine S2.out.mono ?_; rintro e w3 ⟨rfl, hb3⟩; have O3 := hide (O2.out.keep hb3); have K3 := hide (K2.out.keep hb3); have c1 := O3.out.rd.at1; have f1 := O3.out.rd.fr1 1; replace hb3 := hide hb3; obtain ⟨w4, hw4⟩ : ∃ w4, w3.setCell ⟨B, 1, none⟩ (.int .i64 (wrap64 ((i1 : Int) + 1))) = w4 := ⟨_, rfl⟩; have N4 := hide (next4 O3.out.rd hi1.out hw4); have hBX : Hid (B ≠ w1.heap.size + 1 ∧ g ≠ w1.heap.size + 1 ∧ (w.alloc z14O).heap.size ≤ w1.heap.size + 1) := hide ⟨by have := hB.out; have := hX1.out; omega, by have := hgl.out; have := hX1.out; omega, by have e9 : (w.alloc z14O).heap.size = w.heap.size + 1 := (by simp); have := hX1.out; omega⟩; have K4 := hide (blk_on K3.out hBX.out.1 N4.out.gr); have x0 := (blk14 K4.out).1; have y0 := K4.out.fr 0; obtain ⟨w5, hw5⟩ : ∃ w5, w4.setCell ⟨w1.heap.size + 1, 0, none⟩ (.int .i64 6) = w5 := ⟨_, rfl⟩; have K5 := hide (show Blk w5 (w1.heap.size + 1) (exC ({ndS1 ⟨r, cc, p, q⟩ with kind := 6} : Nd) sN) 30 from hw5 ▸ K4.out.set 0 _); have O5 := hide (show On (w.alloc z14O) w5 B g c mB l i2 o from e2'.out ▸ hw5 ▸ (O3.out.trans N4.out).cellX hBX.out.2.2 hBX.out.1 hBX.out.2.1); have H6 := hide (HD.out w5 O5.out.rd))
        | (refine wpList_load_blk rfl 30 _ rfl _ rfl _ (by with_reducible exact K7.out) _ Tryz.underlying30 rfl (exC_info _ _) ?_))
      refine bodyPost_ret (v := exV (ndS2 ⟨r, cc, p, q⟩ ⟨r2, cc2, p2, q2⟩) sN) (results_cell_row Tryz.results186 _ _ w.heap.size 30 (exC (ndS2 ⟨r, cc, p, q⟩ ⟨r2, cc2, p2, q2⟩) sN) (0, 0) _ rfl (F7.out _).2.2 Tryz.underlying30 rfl (exC_info _ _)) rfl ?_
      have e9 : i2 + 1 = i + 3 := by have := e1'.out; have := e2'.out; omega
      exact PRP.leaf (e9 ▸ (F7.out _).2.1) (by omega) hi3.out rfl
    · rw [if_neg he2]
      have he' : (er2 == 0) = false := by rw [beq_eq_false_iff_ne]; exact he2
      go_enter Tryz.func186, Tryz.ntmps186
      go_wp2_with (first
        | (go_at_call 208; refine HC.out.mono ?_; rintro e w1 ⟨rfl, hon⟩; have O2 := hide (hon.keep (step (step (Below.refl _ w1) (refO r cc p q)) (exO (ndS1 ⟨r, cc, p, q⟩) sN))); have K2 := hide (Blk.new1 w1 (refO r cc p q) (exC (ndS1 ⟨r, cc, p, q⟩) sN) 30); have S2 := hide (sign_any O2.out.rd hi1.out); generalize sgAt l i1 = sg at S2 hq; have hX1 := hide (show w.heap.size + 1 ≤ w1.heap.size from by have h9 := hon.gr.size; have e9 : (w.alloc z14O).heap.size = w.heap.size + 1 := (by simp); omega); replace hon := hide hon; clear HC)
        | (go_at_call 208; refine H6.out.mono ?_; rintro e w6 ⟨rfl, hon6⟩; have O6 := hide (O5.out.trans hon6); have K6 := hide (blk_on K5.out hBX.out.1 hon6.gr); obtain ⟨-, -, -, -, -, -, -, -, x8, x9, x10, x11, -, -⟩ := blk14 K6.out; have y8 := K6.out.fr 8; have y9 := K6.out.fr 9; have y10 := K6.out.fr 10; have y11 := K6.out.fr 11; obtain ⟨w7, hw7⟩ : ∃ w7, (((w6.setCell ⟨w1.heap.size + 1, 8, none⟩ (.int .i64 r2)).setCell ⟨w1.heap.size + 1, 9, none⟩ (.int .i64 cc2)).setCell ⟨w1.heap.size + 1, 10, none⟩ (.bool p2)).setCell ⟨w1.heap.size + 1, 11, none⟩ (.bool q2) = w7 := ⟨_, rfl⟩; have O7 := hide (show On (w.alloc z14O) w7 B g c mB l (i2 + 1) o from hw7 ▸ (((O6.out.cellX hBX.out.2.2 hBX.out.1 hBX.out.2.1).cellX hBX.out.2.2 hBX.out.1 hBX.out.2.1).cellX hBX.out.2.2 hBX.out.1 hBX.out.2.1).cellX hBX.out.2.2 hBX.out.1 hBX.out.2.1); have F7 := hide (fun cs => O7.out.fin cs hB.out hgl.out); clear hon6; have X7 := hide (F7.out z14).1)
        | (refine wpList_store_new rfl 30 _ _ rfl z14 (exC (ndS1 ⟨r, cc, p, q⟩) sN) (w1.heap.size + 1) rfl (by simp) rfl (exC_info _ _) (by rfl) (exC_one _ _ _ _) ?_)
        | (go_at_call 104; refine S2.out.mono ?_; rintro e w3 ⟨rfl, hb3⟩; have O3 := hide (O2.out.keep hb3); have K3 := hide (K2.out.keep hb3); have c1 := O3.out.rd.at1; have f1 := O3.out.rd.fr1 1; replace hb3 := hide hb3; obtain ⟨w4, hw4⟩ : ∃ w4, w3.setCell ⟨B, 1, none⟩ (.int .i64 (wrap64 ((i1 : Int) + 1))) = w4 := ⟨_, rfl⟩; have N4 := hide (next4 O3.out.rd hi1.out hw4); have hBX : Hid (B ≠ w1.heap.size + 1 ∧ g ≠ w1.heap.size + 1 ∧ (w.alloc z14O).heap.size ≤ w1.heap.size + 1) := hide ⟨by have := hB.out; have := hX1.out; omega, by have := hgl.out; have := hX1.out; omega, by have e9 : (w.alloc z14O).heap.size = w.heap.size + 1 := (by simp); have := hX1.out; omega⟩; have K4 := hide (blk_on K3.out hBX.out.1 N4.out.gr); have x0 := (blk14 K4.out).1; have y0 := K4.out.fr 0; obtain ⟨w5, hw5⟩ : ∃ w5, w4.setCell ⟨w1.heap.size + 1, 0, none⟩ (.int .i64 6) = w5 := ⟨_, rfl⟩; have K5 := hide (show Blk w5 (w1.heap.size + 1) (exC ({ndS1 ⟨r, cc, p, q⟩ with kind := 6} : Nd) sN) 30 from hw5 ▸ K4.out.set 0 _); have O5 := hide (show On (w.alloc z14O) w5 B g c mB l i2 o from e2'.out ▸ hw5 ▸ (O3.out.trans N4.out).cellX hBX.out.2.2 hBX.out.1 hBX.out.2.1); have H6 := hide (HD.out w5 O5.out.rd))
        | (refine wpList_store_row rfl 30 _ _ rfl _ (exC ndE sN) rfl rfl 30 _ (by with_reducible exact X7.out) (exC_info _ _) (by rfl) (exC_one _ _ _ _) ?_))
      refine bodyPost_ret (v := exV ndE sN) (results_cell_row Tryz.results186 _ _ w.heap.size 30 (exC ndE sN) (0, 0) _ rfl (F7.out _).2.2 Tryz.underlying30 rfl (exC_info _ _)) rfl ?_
      have e9 : i2 + 1 = i + 3 := by have := e1'.out; have := e2'.out; omega
      exact PRP.leaf (e9 ▸ (F7.out _).2.1) (by omega) hi3.out rfl
  · rw [if_neg he]
    have he' : (er == 0) = false := by rw [beq_eq_false_iff_ne]; exact he
    go_enter Tryz.func186, Tryz.ntmps186
    go_wp2_with (first
      | (go_at_call 208; refine HC.out.mono ?_; rintro e w1 ⟨rfl, hon⟩; have O2 := hide (hon.keep (step (step (Below.refl _ w1) (refO r cc p q)) (exO (ndS1 ⟨r, cc, p, q⟩) sN))); have K2 := hide (Blk.new1 w1 (refO r cc p q) (exC (ndS1 ⟨r, cc, p, q⟩) sN) 30); have S2 := hide (sign_any O2.out.rd hi1.out); generalize sgAt l i1 = sg at S2 hq; have hX1 := hide (show w.heap.size + 1 ≤ w1.heap.size from by have h9 := hon.gr.size; have e9 : (w.alloc z14O).heap.size = w.heap.size + 1 := (by simp); omega); replace hon := hide hon; clear HC)
      | (go_at_call 208; refine H6.out.mono ?_; rintro e w6 ⟨rfl, hon6⟩; have O6 := hide (O5.out.trans hon6); have K6 := hide (blk_on K5.out hBX.out.1 hon6.gr); obtain ⟨-, -, -, -, -, -, -, -, x8, x9, x10, x11, -, -⟩ := blk14 K6.out; have y8 := K6.out.fr 8; have y9 := K6.out.fr 9; have y10 := K6.out.fr 10; have y11 := K6.out.fr 11; obtain ⟨w7, hw7⟩ : ∃ w7, (((w6.setCell ⟨w1.heap.size + 1, 8, none⟩ (.int .i64 r2)).setCell ⟨w1.heap.size + 1, 9, none⟩ (.int .i64 cc2)).setCell ⟨w1.heap.size + 1, 10, none⟩ (.bool p2)).setCell ⟨w1.heap.size + 1, 11, none⟩ (.bool q2) = w7 := ⟨_, rfl⟩; have O7 := hide (show On (w.alloc z14O) w7 B g c mB l (i2 + 1) o from hw7 ▸ (((O6.out.cellX hBX.out.2.2 hBX.out.1 hBX.out.2.1).cellX hBX.out.2.2 hBX.out.1 hBX.out.2.1).cellX hBX.out.2.2 hBX.out.1 hBX.out.2.1).cellX hBX.out.2.2 hBX.out.1 hBX.out.2.1); have F7 := hide (fun cs => O7.out.fin cs hB.out hgl.out); clear hon6; have X7 := hide (F7.out z14).1)
      | (refine wpList_store_new rfl 30 _ _ rfl z14 (exC (ndS1 ⟨r, cc, p, q⟩) sN) (w1.heap.size + 1) rfl (by simp) rfl (exC_info _ _) (by rfl) (exC_one _ _ _ _) ?_)
      | (go_at_call 104; refine S2.out.mono ?_; rintro e w3 ⟨rfl, hb3⟩; have O3 := hide (O2.out.keep hb3); have K3 := hide (K2.out.keep hb3); have c1 := O3.out.rd.at1; have f1 := O3.out.rd.fr1 1; replace hb3 := hide hb3; obtain ⟨w4, hw4⟩ : ∃ w4, w3.setCell ⟨B, 1, none⟩ (.int .i64 (wrap64 ((i1 : Int) + 1))) = w4 := ⟨_, rfl⟩; have N4 := hide (next4 O3.out.rd hi1.out hw4); have hBX : Hid (B ≠ w1.heap.size + 1 ∧ g ≠ w1.heap.size + 1 ∧ (w.alloc z14O).heap.size ≤ w1.heap.size + 1) := hide ⟨by have := hB.out; have := hX1.out; omega, by have := hgl.out; have := hX1.out; omega, by have e9 : (w.alloc z14O).heap.size = w.heap.size + 1 := (by simp); have := hX1.out; omega⟩; have K4 := hide (blk_on K3.out hBX.out.1 N4.out.gr); have x0 := (blk14 K4.out).1; have y0 := K4.out.fr 0; obtain ⟨w5, hw5⟩ : ∃ w5, w4.setCell ⟨w1.heap.size + 1, 0, none⟩ (.int .i64 6) = w5 := ⟨_, rfl⟩; have K5 := hide (show Blk w5 (w1.heap.size + 1) (exC ({ndS1 ⟨r, cc, p, q⟩ with kind := 6} : Nd) sN) 30 from hw5 ▸ K4.out.set 0 _); have O5 := hide (show On (w.alloc z14O) w5 B g c mB l i2 o from e2'.out ▸ hw5 ▸ (O3.out.trans N4.out).cellX hBX.out.2.2 hBX.out.1 hBX.out.2.1); have H6 := hide (HD.out w5 O5.out.rd))
      | (refine wpList_store_row rfl 30 _ _ rfl _ (exC ndE sN) rfl rfl 30 _ (by with_reducible exact X7.out) (exC_info _ _) (by rfl) (exC_one _ _ _ _) ?_))
    refine bodyPost_ret (v := exV ndE sN) (results_cell_row Tryz.results186 _ _ w.heap.size 30 (exC ndE sN) (0, 0) _ rfl (F7.out _).2.2 Tryz.underlying30 rfl (exC_info _ _)) rfl ?_
    have e9 : i2 + 1 = i + 3 := by have := e1'.out; have := e2'.out; omega
    exact PRP.leaf (e9 ▸ (F7.out _).2.1) (by omega) hi3.out rfl
end Go.Proofs.YtdlomdbmmhjppaaGreatDoor.T9
