/- parse: what a reading comes to in memory; a value's percents. Proved of the Go text. parse: a value with its percents. Proved of the Go text. -/
import Derived.Test.YtdlomdbmmhjppaaGreatDoorLfJ
import Derived.Test.YtdlomdbmmhjppaaGreatDoorPcJ
import Derived.Test.YtdlomdbmmhjppaaGreatDoorOpJ
namespace Go.Proofs.YtdlomdbmmhjppaaGreatDoor.T9
open Go.RowKit Go.Sort
set_option linter.unusedVariables false

/-- What a reading comes to: a fault is told, or a tree of one's own, and the reader stands behind it. -/
def PRP (w : World) (B g c mB : Nat) (l : List Wd) (i o : Nat) (e : Ending) (w' : World) : PR → Prop
  | .bad er a => e = .panicked (flt er a) ∧ w.grownBy w' (some B)
  | .ok t j => ∃ (a : Option Addr) (len cap : Nat) (bs : List Nat), e = .returned (exV t.nd (.slice a len cap)) ∧ New w w' (exV t.nd (.slice a len cap)) t bs ∧ On w w' B g c mB l j o ∧ i < j ∧ j < l.length ∧ SmE t
theorem _root_.Go.Proofs.YtdlomdbmmhjppaaGreatDoor.Rdr.other {w w' : World} {B g c mB i o : Nat} {l : List Wd} (h : Rdr w B g c mB l i o) (hb : w'.heap[B]? = w.heap[B]?) (hg : w'.heap[g]? = w.heap[g]?) : Rdr w' B g c mB l i o := ⟨hb.trans h.blk, h.words.same hg, h.len, h.ne⟩
theorem _root_.Go.Proofs.YtdlomdbmmhjppaaGreatDoor.Rdr.at1 {w : World} {B g c mB i o : Nat} {l : List Wd} (h : Rdr w B g c mB l i o) : w.cell? ⟨B, 1, none⟩ = some (.int .i64 (i : Int)) := h.blk.at' 1
theorem _root_.Go.Proofs.YtdlomdbmmhjppaaGreatDoor.Rdr.fr1 {w : World} {B g c mB i o : Nat} {l : List Wd} (h : Rdr w B g c mB l i o) (k : Nat) : w.frozen? ⟨B, k, none⟩ = false := h.blk.fr k
theorem _root_.Go.Proofs.YtdlomdbmmhjppaaGreatDoor.Rdr.lt {w : World} {B g c mB i o : Nat} {l : List Wd} (h : Rdr w B g c mB l i o) : B < w.heap.size := h.blk.lt
/-- A tree that has been read, in the midst of a function that began in the world w. -/
structure Got (w wr : World) (B g c mB : Nat) (l : List Wd) (j o lo : Nat) (v : Value) (t : Ex) (bs : List Nat) : Prop where
  gr : w.grownBy wr (some B)
  rd : Rdr wr B g c mB l j o
  ow : Ow wr v t bs
  nd : bs.Nodup
  at' : ∀ k ∈ bs, lo ≤ k ∧ k < wr.heap.size
  sm : SmE t
variable {w w' wr : World} {B g c mB : Nat} {l : List Wd} {i j o lo : Nat} {v : Value} {t : Ex} {bs : List Nat}
theorem Got.of (hg : w.grownBy wr (some B)) (hN : New wr w' v t bs) (hO : On wr w' B g c mB l j o) (hs : SmE t) (hlo : lo ≤ wr.heap.size) : Got w w' B g c mB l j o lo v t bs :=
  ⟨grown_trans hg hO.gr, hO.rd, hN.ow, hN.nd, fun k hk => ⟨Nat.le_trans hlo (hN.at' k hk).1, (hN.at' k hk).2⟩, hs⟩
theorem Got.keep (h : Got w wr B g c mB l j o lo v t bs) (hb : Below wr.heap.size wr w') : Got w w' B g c mB l j o lo v t bs :=
  ⟨grown_trans h.gr (grown_of hb _), h.rd.keep hb, h.ow.move _ (fun k hk => hb.block k (h.at' k hk).2), h.nd, fun k hk => ⟨(h.at' k hk).1, Nat.lt_of_lt_of_le (h.at' k hk).2 hb.size⟩, h.sm⟩
theorem Got.on {j' o' : Nat} (h : Got w wr B g c mB l j o lo v t bs) (hB : B < lo) (hO : On wr w' B g c mB l j' o') : Got w w' B g c mB l j' o' lo v t bs :=
  ⟨grown_trans h.gr hO.gr, hO.rd, h.ow.move _ (fun k hk => hO.gr.block k (h.at' k hk).2 (fun e => by injection e with e; have := (h.at' k hk).1; omega)), h.nd, fun k hk => ⟨(h.at' k hk).1, Nat.lt_of_lt_of_le (h.at' k hk).2 hO.gr.size⟩, h.sm⟩
/-- The answer is laid into the result's block. -/
theorem Got.fin {cs : Array Value} (h : Got (w.alloc z14O) wr B g c mB l j o (w.heap.size + 1) v t bs) (hB : B < w.heap.size) (hg : g < w.heap.size) : wr.heap[w.heap.size]? = some (.cells z14 30 (0, 0)) ∧ New w (wr.setRow w.heap.size cs) v t bs ∧ On w (wr.setRow w.heap.size cs) B g c mB l j o ∧ (wr.setRow w.heap.size cs).heap[w.heap.size]? = some (.cells cs 30 (0, 0)) := by
  have hs : (w.alloc z14O).heap.size = w.heap.size + 1 := by simp
  have hz : wr.heap[w.heap.size]? = some (.cells z14 30 (0, 0)) := (h.gr.block w.heap.size (by omega) (fun e => by injection e with e; omega)).trans (Blk.new w _ _)
  refine ⟨hz, ⟨h.ow.move _ (fun k hk => setRow_other _ _ _ _ (by have := (h.at' k hk).1; omega)), h.nd, fun k hk => ⟨by have := (h.at' k hk).1; omega, by rw [size_setRow]; exact (h.at' k hk).2⟩⟩, ⟨h.rd.other (setRow_other _ _ _ _ (by omega)) (setRow_other _ _ _ _ (by omega)), ?_⟩, setRow_heap _ _ _ _ _ _ hz⟩
  have hs2 := h.gr.size
  exact ⟨h.gr.os, h.gr.tape, h.gr.output, by rw [size_setRow]; omega, fun k hk hne => (setRow_other _ _ _ _ (by omega)).trans ((h.gr.block k (by omega) hne).trans (Below.heap_alloc w _ k hk))⟩
/-- A local variable's block stays over a call of the reader's. -/
theorem blk_on {X : Nat} {cs : Array Value} {ty : TypeId} (h : Blk wr X cs ty) (hX : B ≠ X) (hg : wr.grownBy w' (some B)) : Blk w' X cs ty := (hg.block X h.lt (fun e => by injection e with e; exact hX e.symm)).trans h
/-- The number of the next word, as it lies there. -/
def nextOf (w : World) (B : Nat) : Nat := match w.cell? ⟨B, 1, none⟩ with | some (.int _ n) => n.toNat | _ => 0
theorem nextOf_is (h : Rdr w B g c mB l i o) : nextOf w B = i := by unfold nextOf; rw [h.at1]; rfl
/-- The reader goes on by one word. -/
theorem _root_.Go.Proofs.YtdlomdbmmhjppaaGreatDoor.Rdr.next {x : Nat} (h : Rdr w B g c mB l i o) (hi : i < l.length) : On w (w.setCell ⟨B, 1, none⟩ (.int .i64 (x : Int))) B g c mB l x o := by
  obtain ⟨r1, r2⟩ := h.put (j := x) hi (Below.refl _ _)
  exact ⟨r1, r2⟩
/-- The percents behind a value. -/
def percF (l : List Wd) (f j : Nat) (t : Ex) : Ex × Nat := (percX (runW l (fun s => s == [37]) f j - j) t, runW l (fun s => s == [37]) f j)
theorem runW_ge (l : List Wd) (p : List UInt8 → Bool) : ∀ f j, j ≤ runW l p f j
  | 0, j => Nat.le_refl _
  | f + 1, j => by
    unfold runW
    split
    · exact Nat.le_trans (by omega) (runW_ge l p f (j + 1))
    · exact Nat.le_refl _
theorem percF_yes {l : List Wd} {f j : Nat} {t : Ex} (h : sgAt l j = [37]) : percF l (f + 1) j t = percF l f (j + 1) (unX 3 t) := by
  have e : runW l (fun s => s == [37]) (f + 1) j = runW l (fun s => s == [37]) f (j + 1) := by rw [runW, if_pos (by simp [h])]
  unfold percF
  rw [e]
  have := runW_ge l (fun s => s == [37]) f (j + 1)
  rw [show runW l (fun s => s == [37]) f (j + 1) - j = (runW l (fun s => s == [37]) f (j + 1) - (j + 1)) + 1 by omega]
  rfl
theorem percF_no {l : List Wd} {f j : Nat} {t : Ex} (h : ¬ sgAt l j = [37]) : percF l f j t = (t, j) := by
  have e : runW l (fun s => s == [37]) f j = j := by
    cases f with
    | zero => rfl
    | succ f => rw [runW, if_neg (by simpa using h)]
  unfold percF
  rw [e, Nat.sub_self]
  rfl
end Go.Proofs.YtdlomdbmmhjppaaGreatDoor.T9
namespace Go.Proofs.YtdlomdbmmhjppaaGreatDoor.T9
open Go.RowKit Go.Sort
set_option linter.unusedVariables false

/-- The last word is the end. -/
def EndW (l : List Wd) : Prop := 0 < l.length ∧ (wdAt l (l.length - 1)).kind = 0
theorem EndW.adv {l : List Wd} (h : EndW l) {j : Nat} (hj : j < l.length) (hk : (wdAt l j).kind ≠ 0) : j + 1 < l.length := by
  by_cases e : j = l.length - 1
  · subst e; exact absurd h.2 hk
  · omega
theorem EndW.sg {l : List Wd} (h : EndW l) {j : Nat} (hj : j < l.length) {s : List UInt8} (hs : sgAt l j = s) (h0 : s ≠ []) : j + 1 < l.length := by
  refine h.adv hj (fun hk => h0 ?_)
  rw [← hs]
  unfold sgAt
  rw [if_neg (by rw [hk]; decide)]
theorem OpsM.keep {w w' : World} {B g c mB i o : Nat} {l : List Wd} (h : OpsM w mB) (hR : Rdr w B g c mB l i o) (hg : w.grownBy w' (some B)) : OpsM w' mB := by
  refine (hg.block mB (Array.getElem?_eq_some_iff.1 h).1 (fun e => ?_)).trans h
  injection e with e
  subst e
  have h1 : w.heap[mB]? = some (.cells _ _ (0, 0)) := hR.blk
  rw [show w.heap[mB]? = some (.map opsE.toArray 12) from h] at h1
  cases h1
/-- A function of the reader's, where it stands at word i. -/
abbrev CallP (fn : FuncId) (B g c mB : Nat) (l : List Wd) (i o : Nat) (more : List Value) (r : PR) : Prop := ∀ w, Rdr w B g c mB l i o → OpsM w mB → Calls Tryz.prog fn (.pointer (some ⟨B, 0, none⟩) :: more).toArray w fun e w' => PRP w B g c mB l i o e w' r
variable {B g c mB : Nat} {l : List Wd} {i o : Nat}
set_option maxHeartbeats 1000000 in
set_option maxRecDepth 100000 in
theorem percent_bad (hi : i < l.length) {er at' : Nat} (HP : CallP 152 B g c mB l i o [] (.bad er at')) : CallP 131 B g c mB l i o [] (.bad er at') := by
  intro w hR hM
  have st := step (Below.refl w.heap.size w) z14O
  have H1 := hide (HP (w.alloc z14O) (hR.keep st) (hM.keep hR (grown_of st _)))
  have st' := hide st
  clear st hM HP
  go_enter Tryz.func131, Tryz.ntmps131
  go_wp2_with fail
  refine H1.out.mono ?_
  rintro e w1 ⟨rfl, hg⟩
  exact ⟨rfl, rfl, grown_trans (grown_of st'.out _) hg⟩
theorem SmE.un {op : Int} {t : Ex} (h : SmE t) : SmE (unX op t) := by
  unfold unX SmE
  refine ⟨Nat.zero_le _, Nat.le_of_lt (Nat.lt_of_le_of_lt (Nat.le_refl 1) (by decide)), ?_⟩
  unfold SmL
  exact ⟨h, by unfold SmL; trivial⟩
theorem Got.put {w wr : World} {B g c mB j o lo X : Nat} {l : List Wd} {v : Value} {t : Ex} {bs : List Nat} {cs : Array Value} (h : Got w wr B g c mB l j o lo v t bs) (hX : w.heap.size ≤ X) (hB : B ≠ X) (hg : g ≠ X) (hn : ∀ k ∈ bs, k ≠ X) : Got w (wr.setRow X cs) B g c mB l j o lo v t bs := by
  have hs := h.gr.size
  refine ⟨⟨h.gr.os, h.gr.tape, h.gr.output, by rw [size_setRow]; exact hs, fun k hk hne => (setRow_other _ _ _ _ (by omega)).trans (h.gr.block k hk hne)⟩, h.rd.other (setRow_other _ _ _ _ hB) (setRow_other _ _ _ _ hg), h.ow.move _ (fun k hk => setRow_other _ _ _ _ (hn k hk)), h.nd, fun k hk => ⟨(h.at' k hk).1, by rw [size_setRow]; exact (h.at' k hk).2⟩, h.sm⟩
theorem Got.un {w wr w' : World} {B g c mB j o lo y : Nat} {l : List Wd} {v v' : Value} {t : Ex} {bs : List Nat} {op : Int} (h : Got w wr B g c mB l j o lo v t bs) (hlo : lo ≤ wr.heap.size) (ho : Ow w' v' (unX op t) (y :: bs)) (h1 : wr.heap.size ≤ y) (h2 : y < w'.heap.size) (hb : Below wr.heap.size wr w') : Got w w' B g c mB l j o lo v' (unX op t) (y :: bs) := by
  refine ⟨grown_trans h.gr (grown_of hb _), h.rd.keep hb, ho, List.nodup_cons.2 ⟨fun hy => by have := (h.at' y hy).2; omega, h.nd⟩, fun k hk => ?_, h.sm.un⟩
  rcases List.mem_cons.1 hk with rfl | hk
  · exact ⟨by omega, h2⟩
  · exact ⟨(h.at' k hk).1, Nat.lt_of_lt_of_le (h.at' k hk).2 hb.size⟩
theorem next4 {w w' : World} (h : Rdr w B g c mB l i o) (hi : i < l.length) (he : w.setCell ⟨B, 1, none⟩ (.int .i64 (wrap64 ((i : Int) + 1))) = w') : On w w' B g c mB l (i + 1) o := by
  rw [IntWalk.wrap64_in ((i : Int) + 1) ⟨by omega, by have := h.len; omega⟩] at he
  subst he
  have := h.next (x := i + 1) hi
  rwa [Int.natCast_succ] at this
set_option maxHeartbeats 2000000 in
set_option maxRecDepth 100000 in
theorem percent_ok (hE : EndW l) (hi : i < l.length) {t0 : Ex} {j0 : Nat} (HP : CallP 152 B g c mB l i o [] (.ok t0 j0)) : CallP 131 B g c mB l i o [] (.ok (percF l l.length j0 t0).1 (percF l l.length j0 t0).2) := by
  intro w hR hM
  have hB := hR.lt
  have hgl := hR.glt hi
  obtain ⟨tF, jF, hF⟩ : ∃ tF jF, percF l l.length j0 t0 = (tF, jF) := ⟨_, _, rfl⟩
  rw [hF]
  have st := step (Below.refl w.heap.size w) z14O
  have H1 := hide (HP (w.alloc z14O) (hR.keep st) (hM.keep hR (grown_of st _)))
  have hF' := hide hF
  have hBh := hide hB
  have hgh := hide hgl
  clear st hM HP hF hB hgl hR
  go_enter Tryz.func131, Tryz.ntmps131
  go_wp2_with fail
  refine H1.out.mono ?_
  rintro e w1 ⟨a, len, cap, bs0, rfl, hN, hO, hij, hjl, hsm⟩
  have hs1 : (w.alloc z14O).heap.size = w.heap.size + 1 := by simp
  have G1 := hide ((Got.of (lo := w.heap.size + 1) ⟨rfl, rfl, rfl, Nat.le_refl _, fun _ _ _ => rfl⟩ hN hO hsm (by omega)).keep (step (Below.refl _ w1) (exO t0.nd (.slice a len cap))))
  have K1 := hide (Blk.new w1 (exC t0.nd (.slice a len cap)) 30)
  have hbs := hide (fun k (hk : k ∈ bs0) => (Nat.ne_of_lt (hN.at' k hk).2))
  have hij' := hide hij
  have hjl' := hide hjl
  have hX : Hid (w.heap.size + 1 ≤ w1.heap.size) := hide (by have := hO.gr.size; omega)
  have hsn := run_putnew w1 t0.nd a len cap
  clear hN hO hsm hij hjl
  go_wp2_with fail
  go_loopw [] (fun wr => ∃ (j : Nat) (t : Ex) (sa : Option Addr) (sl sc : Nat) (bs : List Nat), Hid (Got (w.alloc z14O) wr B g c mB l j o (w.heap.size + 1) (exV t.nd (.slice sa sl sc)) t bs) ∧ Hid (Blk wr w1.heap.size (exC t.nd (.slice sa sl sc)) 30) ∧ Hid (∀ k ∈ bs, k ≠ w1.heap.size) ∧ Hid (∃ f, percF l f j t = (tF, jF) ∧ l.length ≤ f + j) ∧ Hid (i < j ∧ j < l.length)) (fun wr => l.length - nextOf wr B)
  case atStart => exact ⟨j0, t0, a, len, cap, bs0, G1, K1, hbs, hide ⟨l.length, hF'.out, by omega⟩, hide ⟨hij'.out, hjl'.out⟩⟩
  case round =>
    obtain ⟨j, t, sa, sl, sc, bs, HG, HK, HN, HF, HJ⟩ := hrel
    have S1 := hide (sign_any HG.out.rd HJ.out.2)
    have hBX : Hid (B ≠ w1.heap.size ∧ g ≠ w1.heap.size) := hide ⟨by have := hBh.out; have := hX.out; omega, by have := hgh.out; have := hX.out; omega⟩
    by_cases hq : sgAt l j = [37]
    · have hq' : (sgAt l j == ([37] : List UInt8)) = true := by rw [hq]; rfl
      have hj1 := hide (hE.sg HJ.out.2 hq (by decide))
      replace hq := hide hq
      replace hE := hide hE
      generalize sgAt l j = sg at S1 hq'
      go_wp2_with (first
        | (go_at_call 104; refine S1.out.mono ?_; rintro e w3 ⟨rfl, hb3⟩; have G3 := hide (HG.out.keep hb3); have K3 := hide (HK.out.keep hb3); have c1 := G3.out.rd.at1; have f1 := G3.out.rd.fr1 1; replace hb3 := hide hb3; obtain ⟨w4, hw4⟩ : ∃ w4, w3.setCell ⟨B, 1, none⟩ (.int .i64 (wrap64 ((j : Int) + 1))) = w4 := ⟨_, rfl⟩; have O4 := hide (next4 G3.out.rd HJ.out.2 hw4); have G4 := hide (G3.out.on (by have := hBh.out; omega) O4.out); have K4 := hide (blk_on K3.out hBX.out.1 O4.out.gr); have H5 := hide (unary_any 3 t.nd sa sl sc t bs w4 G4.out.ow (fun x hx => (G4.out.at' x hx).2)))
        | (refine wpList_load_blk rfl 30 _ rfl _ rfl _ (by with_reducible exact K4.out) _ Tryz.underlying30 rfl (exC_info _ _) ?_)
        | (go_at_call 132; refine H5.out.mono ?_; rintro e w5 ⟨y, rfl, ho5, hy1, hy2, hb5⟩; have K5 := hide (K4.out.keep hb5); have G5 := hide (G4.out.un (op := 3) (by have := G4.out.gr.size; simp at this; omega) ho5 hy1 hy2 hb5); have hsn5 := run_putrow (ndU 3) (some ⟨y, 0, none⟩) 1 1 K5.out rfl; have hyX := hide (show y ≠ w1.heap.size from fun e => by have := K4.out.lt; omega); clear ho5 hy1 hy2; replace hb5 := hide hb5))
      obtain ⟨f, hf, hl⟩ := HF.out
      obtain ⟨f, rfl⟩ : ∃ f', f = f' + 1 := ⟨f - 1, by have := HJ.out.2; omega⟩
      rw [percF_yes hq.out] at hf
      have G6 := hide (G5.out.put (X := w1.heap.size) (cs := exC (ndU 3) (.slice (some ⟨y, 0, none⟩) 1 1)) (by have := hX.out; simp; omega) hBX.out.1 hBX.out.2 (fun k hk => by
        rcases List.mem_cons.1 hk with rfl | hk
        · exact hyX.out
        · exact HN.out k hk))
      refine ⟨⟨j + 1, unX 3 t, some ⟨y, 0, none⟩, 1, 1, y :: bs, G6, hide (setRow_heap _ _ _ _ _ _ K5.out), hide (fun k hk => ?_), hide ⟨f, hf, by omega⟩, hide ⟨by have := HJ.out.1; omega, hj1.out⟩⟩, ?_⟩
      · rcases List.mem_cons.1 hk with rfl | hk
        · exact hyX.out
        · exact HN.out k hk
      · rw [nextOf_is G6.out.rd, nextOf_is HG.out.rd]
        have := HJ.out.2
        omega
    · have hq' : (sgAt l j == ([37] : List UInt8)) = false := by rw [beq_eq_false_iff_ne]; exact hq
      obtain ⟨f, hf, -⟩ := HF.out
      rw [percF_no hq] at hf
      obtain ⟨rfl, rfl⟩ := Prod.mk.inj hf
      clear hf HF hF'
      replace hq := hide hq
      generalize sgAt l j = sg at S1 hq'
      go_wp2_with (first
        | (go_at_call 104; refine S1.out.mono ?_; rintro e w3 ⟨rfl, hb3⟩; have G3 := hide (HG.out.keep hb3); have K3 := hide (HK.out.keep hb3); have F3 := hide (fun cs => G3.out.fin (cs := cs) hBh.out hgh.out); have hsn3 := run_putrow t.nd sa sl sc (F3.out z14).1 rfl; replace hb3 := hide hb3)
        | (refine wpList_load_blk rfl 30 _ rfl _ rfl _ (by with_reducible exact K3.out) _ Tryz.underlying30 rfl (exC_info _ _) ?_))
      refine bodyPost_ret (v := exV t.nd (.slice sa sl sc)) (results_cell_row Tryz.results131 _ _ w.heap.size 30 (exC t.nd (.slice sa sl sc)) (0, 0) _ rfl (F3.out _).2.2.2 Tryz.underlying30 rfl (exC_info _ _)) rfl ?_
      exact ⟨sa, sl, sc, bs, rfl, (F3.out _).2.1, (F3.out _).2.2.1, HJ.out.1, HJ.out.2, G3.out.sm⟩
end Go.Proofs.YtdlomdbmmhjppaaGreatDoor.T9
