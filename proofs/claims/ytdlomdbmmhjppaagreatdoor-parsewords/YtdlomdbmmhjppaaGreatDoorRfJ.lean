/- parse.corner: the text of a reference is read. Proved of the Go text. parse.reference: one reference, or two. Proved of the Go text. parse.reference: two references (written by gen10b.py). Proved of the Go text. -/
import Derived.Test.YtdlomdbmmhjppaaGreatDoorSg9
import Derived.Test.YtdlomdbmmhjppaaGreatDoorRuJ
namespace Go.Proofs.YtdlomdbmmhjppaaGreatDoor.T9
open Go.RowKit Go.Sort
set_option linter.unusedVariables false

abbrev put4 (w : World) (b : Nat) (u0 u1 u2 u3 : Value) : World := (put3 w b u0 u1 u2).setCell ⟨b, 3, none⟩ u3
theorem _root_.Go.Proofs.YtdlomdbmmhjppaaGreatDoor.On.box4 {w w0 w1 : World} {B g c mB i o : Nat} {l : List Wd} (h : On w0 w1 B g c mB l i o) (hb : Below w.heap.size w w0) (hB : B < w.heap.size) (hg : g < w.heap.size) (u0 u1 u2 u3 : Value) : On w (put4 w1 w.heap.size u0 u1 u2 u3) B g c mB l i o := by
  have G := grown_trans (grown_put3 w1 w.heap.size u0 u1 u2) (grown_set (put3 w1 w.heap.size u0 u1 u2) w.heap.size 3 u3)
  have hs := hb.size
  have hs1 := h.gr.size
  refine ⟨⟨h.rd.blk.kept G (fun e => by have := Option.some.inj e; omega), h.rd.words.same (G.block g (by omega) (fun e => by have := Option.some.inj e; omega)), h.rd.len, h.rd.ne⟩, ?_⟩
  refine ⟨G.os.trans (h.gr.os.trans hb.os), G.tape.trans (h.gr.tape.trans hb.tape), G.output.trans (h.gr.output.trans hb.output), Nat.le_trans hs (Nat.le_trans hs1 G.size), fun k hk hne => ?_⟩
  exact (G.block k (by omega) (fun e => by have := Option.some.inj e; omega)).trans ((h.gr.block k (by omega) hne).trans (hb.block k hk))
theorem field_wd (k : Int) (t : ByteArray) (a : Int) (w : World) : (Instr.field 44 (wdV k t a) 1).run Tryz.prog w = .ok (.string t) w := by
  kernel_rfl
variable {B g c mB : Nat} {l : List Wd} {i o : Nat}
set_option maxHeartbeats 1000000 in
set_option maxRecDepth 100000 in
theorem corner_no {w : World} (h : Rdr w B g c mB l i o) (hi : i < l.length) (hk : (wdAt l i).kind ≠ 3) : Calls Tryz.prog 208 #[.pointer (some ⟨B, 0, none⟩)] w fun e w' => e = .panicked (flt 20 (plAt l i)) ∧ w.grownBy w' (some B) := by
  have st := step (Below.refl w.heap.size w) (refO 0 0 false false)
  have HT := hide (takeKind_no (k := 3) (h.keep st) hi hk)
  replace st := hide st
  clear h
  go_enter Tryz.func208, Tryz.ntmps208
  go_wp2_with fail
  refine HT.out.mono ?_
  rintro e w1 ⟨rfl, hg⟩
  exact ⟨rfl, rfl, grown_trans (grown_of st.out _) hg⟩
set_option maxHeartbeats 1000000 in
set_option maxRecDepth 100000 in
theorem corner_yes {w : World} (h : Rdr w B g c mB l i o) (hi : i < l.length) (hk : (wdAt l i).kind = 3) (hs : (ba (wdAt l i).text).size ≤ maxLen) : Calls Tryz.prog 208 #[.pointer (some ⟨B, 0, none⟩)] w fun e w' => e = .returned (.tuple #[refV (rR (ba (wdAt l i).text)) (rC (ba (wdAt l i).text)) (rP (ba (wdAt l i).text)) (rQ (ba (wdAt l i).text)), .bool (rE (ba (wdAt l i).text) == 0)]) ∧ On w w' B g c mB l (i + 1) o := by
  have st := step (Below.refl w.heap.size w) (refO 0 0 false false)
  have HT := hide (takeKind_yes (k := 3) (h.keep st) hi hk)
  have ZB := hide (Blk.new w #[.int .i64 0, .int .i64 0, .bool false, .bool false] 27)
  have hlt : Hid (B < w.heap.size ∧ g < w.heap.size) := hide ⟨h.blk.lt, h.glt hi⟩
  have hne : Hid (w.heap.size ≠ B) := hide (fun e => by have := h.blk.lt; omega)
  have HR := hide (fun w => readRef_any (ba (wdAt l i).text) w hs)
  generalize rR (ba (wdAt l i).text) = r at *
  generalize rC (ba (wdAt l i).text) = cc at *
  generalize rP (ba (wdAt l i).text) = p at *
  generalize rQ (ba (wdAt l i).text) = q at *
  generalize rN (ba (wdAt l i).text) = n at *
  generalize rE (ba (wdAt l i).text) = er at *
  replace st := hide st
  generalize wdAt l i = x at HT HR
  obtain ⟨xk, xt, xa⟩ := x
  simp only at HT HR
  have hfw := field_wd (xk : Int) (ba xt) (xa : Int)
  clear h hs hk
  go_enter Tryz.func208, Tryz.ntmps208
  go_wp2_with (first
    | (go_at_call 80; (refine HT.out.mono ?_; rintro e w1 ⟨rfl, hon⟩; have On2 := hide (hon.keep (step (step (Below.refl _ w1) (refO r cc p q)) (refO r cc p q))); have Z1 := ((blk_on ZB.out (fun e => hne.out e.symm) hon.gr).alloc (refO r cc p q)).alloc (refO r cc p q); have z0 := Z1.at' 0; have z1 := Z1.at' 1; have z2 := Z1.at' 2; have z3 := Z1.at' 3; have y0 := Z1.fr 0; have y1 := Z1.fr 1; have y2 := Z1.fr 2; have y3 := Z1.fr 3; have zl := Z1.lt; simp only [List.getElem?_toArray, List.getElem?_cons_zero, List.getElem?_cons_succ] at z0 z1 z2 z3; replace Z1 := hide Z1; replace hon := hide hon))
    | (go_at_call 141; (refine (HR.out _).mono ?_; rintro e w2 ⟨rfl, rfl⟩)))
  refine bodyPost_ret (v := .tuple #[refV r cc p q, .bool (er == 0)]) (by simp [results, Tryz.results208, go_sem, z0, z1, z2, z3]; try rfl) rfl ?_
  exact ⟨rfl, On2.out.box4 st.out hlt.out.1 hlt.out.2 _ _ _ _⟩
end Go.Proofs.YtdlomdbmmhjppaaGreatDoor.T9
namespace Go.Proofs.YtdlomdbmmhjppaaGreatDoor.T9
open Go.RowKit Go.Sort
set_option linter.unusedVariables false

/-- What the text of a reference says. -/
def rdF (s : List UInt8) : Option Rf := if rE (ba s) = 0 then some ⟨rR (ba s), rC (ba s), rP (ba s), rQ (ba s)⟩ else none
abbrev sN : Value := .slice none 0 0
abbrev ndS1 (a : Rf) : Nd := ⟨5, 0, 0, no10, a, rf0, 0⟩
abbrev ndE : Nd := ⟨4, 0, 3, no10, rf0, rf0, 0⟩
abbrev ndS2 (a b : Rf) : Nd := ⟨6, 0, 0, no10, a, b, 0⟩
variable {B g c mB : Nat} {l : List Wd} {i o : Nat}
theorem _root_.Go.Proofs.YtdlomdbmmhjppaaGreatDoor.On.fin {w wr : World} {j : Nat} (cs : Array Value) (h : On (w.alloc z14O) wr B g c mB l j o) (hB : B < w.heap.size) (hg : g < w.heap.size) : wr.heap[w.heap.size]? = some (.cells z14 30 (0, 0)) ∧ On w (wr.setRow w.heap.size cs) B g c mB l j o ∧ (wr.setRow w.heap.size cs).heap[w.heap.size]? = some (.cells cs 30 (0, 0)) := by
  have hs : (w.alloc z14O).heap.size = w.heap.size + 1 := by simp
  have hz : wr.heap[w.heap.size]? = some (.cells z14 30 (0, 0)) := (h.gr.block w.heap.size (by omega) (fun e => by injection e with e; omega)).trans (Blk.new w _ _)
  refine ⟨hz, ⟨h.rd.other (setRow_other _ _ _ _ (by omega)) (setRow_other _ _ _ _ (by omega)), ?_⟩, setRow_heap _ _ _ _ _ _ hz⟩
  have hs2 := h.gr.size
  exact ⟨h.gr.os, h.gr.tape, h.gr.output, by rw [size_setRow]; omega, fun k hk hne => (setRow_other _ _ _ _ (by omega)).trans ((h.gr.block k (by omega) hne).trans (Below.heap_alloc w _ k hk))⟩
theorem PRP.leaf {w w' : World} {j : Nat} {nd : Nd} (ho : On w w' B g c mB l j o) (h1 : i < j) (h2 : j < l.length) (ht : nd.text = no10) : PRP w B g c mB l i o (.returned (exV nd sN)) w' (.ok (.mk nd []) j) := by
  refine ⟨none, 0, 0, [], rfl, ⟨?_, List.nodup_nil, fun k hk => absurd hk List.not_mem_nil⟩, ho, h1, h2, ?_⟩
  · unfold Ow
    exact ⟨none, 0, 0, rfl, rfl, .inl ⟨rfl, rfl, rfl, rfl⟩⟩
  · unfold SmE
    rw [ht]
    exact ⟨Nat.zero_le _, Nat.zero_le _, by unfold SmL; trivial⟩
set_option maxHeartbeats 2000000 in
set_option maxRecDepth 100000 in
theorem ref_one (hE : EndW l) (hi : i < l.length) (hk : (wdAt l i).kind = 3) (hs : (ba (wdAt l i).text).size ≤ maxLen) (hn : ¬ sgAt l (i + 1) = [58]) : CallP 186 B g c mB l i o [] (.ok (match rdF (wdAt l i).text with | some a => .mk (ndS1 a) [] | none => errRef) (i + 1)) := by
  intro w hR hM
  have st := step (Below.refl w.heap.size w) z14O
  have HC := hide (corner_yes (hR.keep st) hi hk hs)
  have hB := hide hR.lt
  have hgl := hide (hR.glt hi)
  have hi1 := hide (hE.adv hi (by rw [hk]; decide))
  replace st := hide st
  unfold rdF
  generalize rR (ba (wdAt l i).text) = r at *
  generalize rC (ba (wdAt l i).text) = cc at *
  generalize rP (ba (wdAt l i).text) = p at *
  generalize rQ (ba (wdAt l i).text) = q at *
  generalize rE (ba (wdAt l i).text) = er at *
  have hq : (sgAt l (i + 1) == ([58] : List UInt8)) = false := by rw [beq_eq_false_iff_ne]; exact hn
  clear hR hM hs hk hn
  by_cases he : er = 0
  · subst he
    rw [if_pos rfl]
    go_enter Tryz.func186, Tryz.ntmps186
    go_wp2_with (first
      | (go_at_call 208; (refine HC.out.mono ?_; rintro e w1 ⟨rfl, hon⟩; have O2 := hide (hon.keep (step (step (Below.refl _ w1) (refO r cc p q)) (exO (ndS1 ⟨r, cc, p, q⟩) sN))); have K2 := hide (Blk.new1 w1 (refO r cc p q) (exC (ndS1 ⟨r, cc, p, q⟩) sN) 30); have S2 := hide (sign_any O2.out.rd hi1.out); generalize sgAt l (i + 1) = sg at S2 hq; replace hon := hide hon))
      | (go_at_call 104; (refine S2.out.mono ?_; rintro e w3 ⟨rfl, hb3⟩; have O3 := hide (O2.out.keep hb3); have K3 := hide (K2.out.keep hb3); have F3 := hide (fun cs => O3.out.fin cs hB.out hgl.out); have hsn3 := run_putrow (ndS1 ⟨r, cc, p, q⟩) none 0 0 (F3.out z14).1 rfl; replace hb3 := hide hb3))
      | (refine wpList_store_new rfl 30 _ _ rfl z14 (exC (ndS1 ⟨r, cc, p, q⟩) sN) (w1.heap.size + 1) rfl (by simp) rfl (exC_info _ _) (by rfl) (exC_one _ _ _ _) ?_)
      | (refine wpList_load_blk rfl 30 _ rfl _ rfl _ (by with_reducible exact K3.out) _ Tryz.underlying30 rfl (exC_info _ _) ?_))
    refine bodyPost_ret (v := exV (ndS1 ⟨r, cc, p, q⟩) sN) (results_cell_row Tryz.results186 _ _ w.heap.size 30 (exC (ndS1 ⟨r, cc, p, q⟩) sN) (0, 0) _ rfl (F3.out _).2.2 Tryz.underlying30 rfl (exC_info _ _)) rfl ?_
    exact PRP.leaf (F3.out _).2.1 (Nat.lt_succ_self i) hi1.out rfl
  · rw [if_neg he]
    have he' : (er == 0) = false := by rw [beq_eq_false_iff_ne]; exact he
    go_enter Tryz.func186, Tryz.ntmps186
    go_wp2_with (first
      | (go_at_call 208; (refine HC.out.mono ?_; rintro e w1 ⟨rfl, hon⟩; have O2 := hide (hon.keep (step (step (Below.refl _ w1) (refO r cc p q)) (exO (ndS1 ⟨r, cc, p, q⟩) sN))); have S2 := hide (sign_any O2.out.rd hi1.out); generalize sgAt l (i + 1) = sg at S2 hq; replace hon := hide hon))
      | (go_at_call 104; (refine S2.out.mono ?_; rintro e w3 ⟨rfl, hb3⟩; have O3 := hide (O2.out.keep hb3); have F3 := hide (fun cs => O3.out.fin cs hB.out hgl.out); have X3 := hide (F3.out z14).1; replace hb3 := hide hb3))
      | (refine wpList_store_new rfl 30 _ _ rfl z14 (exC (ndS1 ⟨r, cc, p, q⟩) sN) (w1.heap.size + 1) rfl (by simp) rfl (exC_info _ _) (by rfl) (exC_one _ _ _ _) ?_)
      | (refine wpList_store_row rfl 30 _ _ rfl _ (exC ndE sN) rfl rfl 30 _ (by with_reducible exact X3.out) (exC_info _ _) (by rfl) (exC_one _ _ _ _) ?_))
    refine bodyPost_ret (v := exV (ndE) sN) (results_cell_row Tryz.results186 _ _ w.heap.size 30 (exC (ndE) sN) (0, 0) _ rfl (F3.out _).2.2 Tryz.underlying30 rfl (exC_info _ _)) rfl ?_
    exact PRP.leaf (F3.out _).2.1 (Nat.lt_succ_self i) hi1.out rfl
end Go.Proofs.YtdlomdbmmhjppaaGreatDoor.T9
namespace Go.Proofs.YtdlomdbmmhjppaaGreatDoor.T9
open Go.RowKit Go.Sort
set_option linter.unusedVariables false

variable {B g c mB : Nat} {l : List Wd} {i o : Nat}
theorem _root_.Go.Proofs.YtdlomdbmmhjppaaGreatDoor.On.cellX {w wr : World} {B g c mB j o X k : Nat} {l : List Wd} {v : Value} (h : On w wr B g c mB l j o) (hX : w.heap.size ≤ X) (hB : B ≠ X) (hg : g ≠ X) : On w (wr.setCell ⟨X, k, none⟩ v) B g c mB l j o := by
  have hs := h.gr.size
  have hz := h.rd.lt
  have G : ∀ b, b ≠ X → (wr.setCell ⟨X, k, none⟩ v).heap[b]? = wr.heap[b]? := fun b hb => Below.heap_setCell _ _ _ b hb
  exact ⟨h.rd.other (G B hB) (G g hg), h.gr.os, h.gr.tape, h.gr.output, by simpa using hs, fun k' hk hne => (G k' (by omega)).trans (h.gr.block k' hk hne)⟩
set_option maxHeartbeats 4000000 in
set_option maxRecDepth 100000 in
theorem ref_two_bad (hE : EndW l) (hi : i < l.length) (hk : (wdAt l i).kind = 3) (hs : (ba (wdAt l i).text).size ≤ maxLen) (hn : sgAt l (i + 1) = [58]) (hk2 : (wdAt l (i + 2)).kind ≠ 3) : CallP 186 B g c mB l i o [] (.bad 20 (plAt l (i + 2))) := by
  intro w hR hM
  have hi1 := hE.adv hi (by rw [hk]; decide)
  have hi2 := hE.sg hi1 hn (by decide)
  have st := step (Below.refl w.heap.size w) z14O
  have HC := corner_yes (hR.keep st) hi hk hs
  have hB := hide hR.lt
  have hgl := hide (hR.glt hi)
  obtain ⟨i1, e1⟩ : ∃ i1, i + 1 = i1 := ⟨_, rfl⟩
  obtain ⟨i2, e2⟩ : ∃ i2, i1 + 1 = i2 := ⟨_, rfl⟩
  have e3 : i + 2 = i2 := by omega
  rw [e1] at HC hn hi1
  rw [show i + 1 + 1 = i2 by omega] at hi2
  rw [e3] at hk2
  replace HC := hide HC
  replace hi1 := hide hi1
  replace hi2 := hide hi2
  replace st := hide st
  have HD := hide (fun w' (h' : Rdr w' B g c mB l i2 o) => corner_no h' hi2.out hk2)
  rw [e3]
  generalize rR (ba (wdAt l i).text) = r at *
  generalize rC (ba (wdAt l i).text) = cc at *
  generalize rP (ba (wdAt l i).text) = p at *
  generalize rQ (ba (wdAt l i).text) = q at *
  generalize rE (ba (wdAt l i).text) = er at *
  have hq : (sgAt l i1 == ([58] : List UInt8)) = true := by rw [hn]; rfl
  have e2' := hide e2
  have e1' := hide e1
  clear hR hM hs hk hn e1 e2 e3 hk2
  go_enter Tryz.func186, Tryz.ntmps186
  go_wp2_with (first
    | (go_at_call 208; refine HC.out.mono ?_; rintro e w1 ⟨rfl, hon⟩; have O2 := hide (hon.keep (step (step (Below.refl _ w1) (refO r cc p q)) (exO (ndS1 ⟨r, cc, p, q⟩) sN))); have K2 := hide (Blk.new1 w1 (refO r cc p q) (exC (ndS1 ⟨r, cc, p, q⟩) sN) 30); have S2 := hide (sign_any O2.out.rd hi1.out); generalize sgAt l i1 = sg at S2 hq; have hX1 := hide (show w.heap.size + 1 ≤ w1.heap.size from by have h9 := hon.gr.size; have e9 : (w.alloc z14O).heap.size = w.heap.size + 1 := (by simp); omega); replace hon := hide hon; clear HC)
    | (go_at_call 208; refine H6.out.mono ?_; rintro e w6 ⟨rfl, hg6⟩; replace hg6 := hide hg6)
    | (refine wpList_store_new rfl 30 _ _ rfl z14 (exC (ndS1 ⟨r, cc, p, q⟩) sN) (w1.heap.size + 1) rfl (by simp) rfl (exC_info _ _) (by rfl) (exC_one _ _ _ _) ?_)
    | (go_at_call 104; refine S2.out.mono ?_; rintro e w3 ⟨rfl, hb3⟩; have O3 := hide (O2.out.keep hb3); have K3 := hide (K2.out.keep hb3); have c1 := O3.out.rd.at1; have f1 := O3.out.rd.fr1 1; replace hb3 := hide hb3; obtain ⟨w4, hw4⟩ : ∃ w4, w3.setCell ⟨B, 1, none⟩ (.int .i64 (wrap64 ((i1 : Int) + 1))) = w4 := ⟨_, rfl⟩; have N4 := hide (next4 O3.out.rd hi1.out hw4); have hBX : Hid (B ≠ w1.heap.size + 1 ∧ g ≠ w1.heap.size + 1 ∧ (w.alloc z14O).heap.size ≤ w1.heap.size + 1) := hide ⟨by have := hB.out; have := hX1.out; omega, by have := hgl.out; have := hX1.out; omega, by have e9 : (w.alloc z14O).heap.size = w.heap.size + 1 := (by simp); have := hX1.out; omega⟩; have K4 := hide (blk_on K3.out hBX.out.1 N4.out.gr); have x0 := (blk14 K4.out).1; have y0 := K4.out.fr 0; obtain ⟨w5, hw5⟩ : ∃ w5, w4.setCell ⟨w1.heap.size + 1, 0, none⟩ (.int .i64 6) = w5 := ⟨_, rfl⟩; have K5 := hide (show Blk w5 (w1.heap.size + 1) (exC ({ndS1 ⟨r, cc, p, q⟩ with kind := 6} : Nd) sN) 30 from hw5 ▸ K4.out.set 0 _); have O5 := hide (show On (w.alloc z14O) w5 B g c mB l i2 o from e2'.out ▸ hw5 ▸ (O3.out.trans N4.out).cellX hBX.out.2.2 hBX.out.1 hBX.out.2.1); have H6 := hide (HD.out w5 O5.out.rd)))
  exact ⟨rfl, rfl, grown_trans (grown_of st.out _) (grown_trans O5.out.gr hg6.out)⟩
end Go.Proofs.YtdlomdbmmhjppaaGreatDoor.T9
