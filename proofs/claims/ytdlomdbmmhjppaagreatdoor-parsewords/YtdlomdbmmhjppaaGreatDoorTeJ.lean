/- parse.wordsOf: a formula's words, with their places in the whole of it, and the end behind them. Proved of the Go text. parse.treeOf: the tree of a formula that may be, or its first fault. Proved of the Go text. -/
import Derived.Test.YtdlomdbmmhjppaaGreatDoorFmJ
import Derived.Test.YtdlomdbmmhjppaaGreatDoorCtJ
namespace Go.Proofs.YtdlomdbmmhjppaaGreatDoor.T9
open Go.RowKit Go.Sort
set_option linter.unusedVariables false

theorem allW_up (ws : List Wd) (n : Nat) : allW ws n = ws.map upW ++ [⟨0, [], n⟩] := rfl
theorem pre_yes {s : ByteArray} {r : List UInt8} (h : s.data.toList = 61 :: r) : CallS 78 #[.string s, .string (ba [61])] (.tuple #[.string (ba r), .bool true]) := fun w => (Tryz.strings_CutPrefix s (ba [61]) w).mono (by
  rintro e w' ⟨rfl, rfl⟩
  refine ⟨?_, rfl⟩
  rw [h, ba_list]
  rfl)
theorem pre_no {s : ByteArray} (h : Lib.hasPrefix s.data.toList [61] = false) : ∃ t, CallS 78 #[.string s, .string (ba [61])] (.tuple #[.string t, .bool false]) := ⟨_, fun w => (Tryz.strings_CutPrefix s (ba [61]) w).mono (by
  rintro e w' ⟨rfl, rfl⟩
  refine ⟨?_, rfl⟩
  rw [ba_list, h])⟩
set_option maxHeartbeats 2000000 in
set_option maxRecDepth 100000 in
theorem wordsOf_no {s : ByteArray} (h : Lib.hasPrefix s.data.toList [61] = false) (w : World) : Calls Tryz.prog 51 #[.string s] w fun e w' => e = .panicked (flt 1 0) ∧ w' = w := by
  obtain ⟨t, HP⟩ := pre_no h
  clear h
  go_enter Tryz.func51, Tryz.ntmps51
  go_wp2_with (go_at_call 78; refine (HP.out _).mono ?_; rintro e w1 ⟨rfl, hw0⟩; rw [hw0]; clear hw0)
  exact ⟨rfl, rfl, rfl⟩
set_option maxHeartbeats 2000000 in
set_option maxRecDepth 100000 in
theorem wordsOf_bad {s : ByteArray} {r : List UInt8} {i er : Nat} (h : s.data.toList = 61 :: r) (hc : cutR (ba r) = .bad i er) (hmax : s.size ≤ maxLen) (w : World) (hl : Lay8 w) : Calls Tryz.prog 51 #[.string s] w fun e w' => e = .panicked (flt er (1 + i)) ∧ Below w.heap.size w w' := by
  have hx := cutR_bad hc
  have hi := cutR_at hc
  have hz : s.size = r.length + 1 := by rw [Lib.size_eq, h]; rfl
  have HP := hide (pre_yes h).out
  have HC := cut8 (ba r) w hl (by rw [ba_size]; omega)
  rw [hc] at HC
  replace HC := hide HC
  have hw1 : wrap64 ((s.size : Int) - ((ba r).size : Int)) = 1 := by rw [hz, ba_size r, IntWalk.wrap64_in _ ⟨by omega, by omega⟩]; omega
  have hw2 : wrap64 (1 + (i : Int)) = ((1 + i : Nat) : Int) := by rw [IntWalk.wrap64_in _ ⟨by omega, by omega⟩]; omega
  have he : ((er : Int) != 0) = true := by rw [bne_iff_ne]; omega
  generalize ba r = b at *
  generalize 1 + i = q at *
  clear h hc hx hi hz hmax
  go_enter Tryz.func51, Tryz.ntmps51
  go_wp2_with (first
    | (go_at_call 78; refine (HP.out _).mono ?_; rintro e w1 ⟨rfl, hw0⟩; rw [hw0]; clear hw0)
    | (go_at_call 15; refine HC.out.mono ?_; rintro e w2 ⟨hb, rfl⟩; replace hb := hide hb))
  exact ⟨rfl, rfl, hb.out⟩
set_option maxHeartbeats 4000000 in
set_option maxRecDepth 100000 in
theorem wordsOf_ok {s : ByteArray} {r : List UInt8} {ws : List Wd} (h : s.data.toList = 61 :: r) (hc : cutR (ba r) = .ok ws) (hmax : s.size ≤ maxLen) (w : World) (hl : Lay8 w) : Calls Tryz.prog 51 #[.string s] w fun e w' => ∃ v, e = .returned v ∧ RowW w' w.heap.size v (allW ws s.size) ∧ Below w.heap.size w w' := by
  obtain ⟨hg, hlen, hsz, hat⟩ := cutR_wdg hc
  have hz : s.size = r.length + 1 := by rw [Lib.size_eq, h]; rfl
  have HP := hide (pre_yes h).out
  have HC := cut8 (ba r) w hl (by rw [ba_size]; omega)
  rw [hc] at HC
  replace HC := hide HC
  have hw1 : wrap64 ((s.size : Int) - ((ba r).size : Int)) = 1 := by rw [hz, ba_size r, IntWalk.wrap64_in _ ⟨by omega, by omega⟩]; omega
  have hws := hide (show ∀ j (hj : j < ws.length), wrap64 ((ws[j].at' : Int) + 1) = ((ws[j].at' + 1 : Nat) : Int) from fun j hj => by
    have := hat ws[j] (List.getElem_mem hj)
    rw [IntWalk.wrap64_in _ ⟨by omega, by omega⟩]; omega)
  generalize ba r = b at *
  replace hlen := hide hlen
  clear h hc hg hat hz hsz hmax hl
  go_enter Tryz.func51, Tryz.ntmps51
  go_wp2_with (first
    | (go_at_call 78; refine (HP.out _).mono ?_; rintro e w1 ⟨rfl, hw0⟩; rw [hw0]; clear hw0)
    | (go_at_call 15; refine HC.out.mono ?_; rintro e w2 ⟨hb, v, rfl, hrow⟩; obtain ⟨av, cv, rfl⟩ := row_slice hrow; replace hb := hide hb; replace hrow := hide hrow))
  go_loopw [40] (fun i wr => ∃ j : Nat, j ≤ ws.length ∧ i = .int .i64 j ∧ Hid (RowW wr w.heap.size (.slice av ws.length cv) (midW ws j)) ∧ Hid (Below w.heap.size w wr)) (fun i _ => ws.length - (intOf i).toNat)
  case atStart => exact ⟨0, Nat.zero_le _, rfl, hrow, hb⟩
  case round =>
    obtain ⟨j, hj, rfl, hR, hB⟩ := hrel
    by_cases hlt : j < ws.length
    · have hjl : (j : Int) < ws.length := by omega
      obtain ⟨g, rfl⟩ : ∃ g, av = some ⟨g, 0, none⟩ := by
        rcases hR.out.2 with ⟨h', h0⟩ | ⟨g', cap', cur, h', _⟩
        · rw [midW_len] at h0; omega
        · exact ⟨g', (Value.slice.inj h').1⟩
      have hml : j < (midW ws j).length := by rw [midW_len]; exact hlt
      obtain ⟨x0, x1, x2⟩ := rowW_cells8 (midW_len ws j).symm hR.out j hml
      rw [midW_at ws j hlt hml] at x0 x1 x2
      have fr := rowW_fr8 hR.out (j * 3 + 2)
      have hw2 := hws.out j hlt
      have R2 := rowW_set8 (midW_len ws j).symm hR.out j (ws[j].at' + 1) hml
      rw [midW_at ws j hlt hml, show ({ ws[j] with at' := ws[j].at' + 1 } : Wd) = upW ws[j] from rfl, midW_set ws j hlt] at R2
      have B2 := hide (hB.out.setCell (p := ⟨g, j * 3 + 2, none⟩) (rowW_ge8 hR.out).1 (.int .i64 ((ws[j].at' + 1 : Nat) : Int)))
      replace R2 := hide R2
      have hn : Hid (ws.length ≤ 65535) := hlen
      generalize ws[j].at' = p at *
      generalize p + 1 = p1 at *
      have hjw : wrap64 ((j : Int) + 1) = ((j + 1 : Nat) : Int) := by rw [IntWalk.wrap64_in _ ⟨by omega, by have := hlen.out; omega⟩]; omega
      go_wp2_with fail
      go_roundw
      case rel => exact ⟨j + 1, by omega, by rw [hjw], R2, B2⟩
      case measure =>
        rw [hjw]
        simp only [intOf, Int.toNat_natCast]
        omega
    · obtain rfl : j = ws.length := by omega
      have hjl : ¬ (ws.length : Int) < ws.length := by omega
      have hR2 := hR.out
      rw [midW_end] at hR2
      have R2 := hide (row_keep hR2 (step (Below.refl _ _) (wdO 0 no s.size)))
      rename_i wr _
      have cn := (Go.Proofs.YtdlomdbmmhjppaaGreatDoor.Blk.new wr #[.int .i64 0, .string no, .int .i64 s.size] 44).cells3
      have B2 := hide (step hB.out (wdO 0 no s.size))
      have hz2 := hide hB.out.size
      go_wp2_with (at_builtin; refine wpList_appW8 (y := ⟨0, [], s.size⟩) rfl _ _ rfl rfl rfl R2.out cn (by rw [List.length_map]; have := hlen.out; omega) (by have := hz2.out; simp; omega) ?_; intro v5 w5 hrow5 hg5; have B5 := hide (B2.out.grown hg5 (by have := hz2.out; simp; omega) (fun j e => (R2.out.lt j e).1)); replace hrow5 := hide hrow5; replace hg5 := hide hg5)
      go_ret
      exact ⟨v5, rfl, hrow5.out, B5.out⟩
end Go.Proofs.YtdlomdbmmhjppaaGreatDoor.T9
namespace Go.Proofs.YtdlomdbmmhjppaaGreatDoor.T9
open Go.RowKit Go.Sort
set_option linter.unusedVariables false

/-- What a formula comes to in memory: a fault, or a tree of one's own. -/
def TRP (w : World) (e : Ending) (w' : World) : PR → Prop
  | .bad er a => e = .panicked (flt er a) ∧ Below w.heap.size w w'
  | .ok t _ => ∃ (a : Option Addr) (len cap : Nat) (bs : List Nat), e = .returned (exV t.nd (.slice a len cap)) ∧ New w w' (exV t.nd (.slice a len cap)) t bs ∧ Below w.heap.size w w' ∧ SmE t
/-- What wordsOf comes to. -/
abbrev WordsP (s : ByteArray) (w : World) (l : List Wd) : Prop := Calls Tryz.prog 51 #[.string s] w fun e w' => ∃ v, e = .returned v ∧ RowW w' w.heap.size v l ∧ Below w.heap.size w w'
set_option maxHeartbeats 2000000 in
set_option maxRecDepth 100000 in
theorem treeOf_bad {s : ByteArray} {er a : Nat} (w : World) (HW : Calls Tryz.prog 51 #[.string s] (w.alloc z14O) fun e w' => e = .panicked (flt er a) ∧ Below (w.alloc z14O).heap.size (w.alloc z14O) w') : Calls Tryz.prog 29 #[.string s] w fun e w' => e = .panicked (flt er a) ∧ Below w.heap.size w w' := by
  have H := hide HW
  have st := hide (step (Below.refl w.heap.size w) z14O)
  clear HW
  go_enter Tryz.func29, Tryz.ntmps29
  go_wp2_with (go_at_call 51; refine H.out.mono ?_; rintro e w1 ⟨rfl, hb⟩; replace hb := hide hb)
  exact ⟨rfl, rfl, next st.out hb.out⟩
theorem grown_next {w w1 w2 : World} {r : Nat} (h : Below w.heap.size w w1) (hg : w1.grownBy w2 (some r)) (hr : w.heap.size ≤ r) : Below w.heap.size w w2 :=
  ⟨hg.os.trans h.os, hg.tape.trans h.tape, hg.output.trans h.output, Nat.le_trans h.size hg.size, fun k hk => (hg.block k (Nat.lt_of_lt_of_le hk h.size) (fun e => by cases e; omega)).trans (h.block k hk)⟩
theorem rdr_new {w2 : World} {l : List Wd} {g c mB : Nat} (hin : WordsIn w2 (some ⟨g, 0, none⟩) l) (hg : g < w2.heap.size) (hl : l.length ≤ 100000) (hc : l.length ≤ c) : Rdr (w2.alloc (.cells #[.slice (some ⟨g, 0, none⟩) l.length c, .int .i64 0, .int .i64 0, .map (some mB)] 92)) w2.heap.size g c mB l 0 0 :=
  ⟨Blk.new w2 _ _, hin.keep (step (Below.refl _ _) _), ⟨hl, hc⟩, by omega⟩
/-- The reader, new. -/
abbrev rdO (g n c mB : Nat) : Obj := .cells #[.slice (some ⟨g, 0, none⟩) n c, .int .i64 0, .int .i64 0, .map (some mB)] 92
theorem rdr_ops {w w1 w2 : World} {l : List Wd} {g c : Nat} (B1 : Below w.heap.size w w1) (hin : WordsIn w1 (some ⟨g, 0, none⟩) l) (hg : w.heap.size + 1 ≤ g ∧ g < w1.heap.size ∧ l.length ≤ c) (hl : l.length ≤ 100000) (hM : OpsM w2 w1.heap.size) (hb : Below w1.heap.size w1 w2) :
    Rdr (w2.alloc (rdO g l.length c w1.heap.size)) w2.heap.size g c w1.heap.size l 0 0 ∧ OpsM (w2.alloc (rdO g l.length c w1.heap.size)) w1.heap.size ∧ Below w.heap.size w (w2.alloc (rdO g l.length c w1.heap.size)) ∧ w.heap.size < w2.heap.size := by
  refine ⟨rdr_new (hin.keep hb) (Nat.lt_of_lt_of_le hg.2.1 hb.size) hl hg.2.2, ?_, step (next B1 hb) _, ?_⟩
  · exact (Below.heap_alloc w2 _ _ (Array.getElem?_eq_some_iff.1 hM).1).trans hM
  · have := hb.size
    omega
set_option maxHeartbeats 4000000 in
set_option maxRecDepth 100000 in
theorem treeOf_fault {s : ByteArray} {l : List Wd} {er a : Nat} (hE : EndW l) (hW : WordOk l) (hlen : l.length ≤ 100000) (hf : formP rdF Fd0 l = .bad er a) (w : World) (HW : WordsP s (w.alloc z14O) l) : Calls Tryz.prog 29 #[.string s] w fun e w' => e = .panicked (flt er a) ∧ Below w.heap.size w w' := by
  have H := hide HW
  have st := hide (step (Below.refl w.heap.size w) z14O)
  have HF := hide (fun w B g c mB => formula_is (l := l) (B := B) (g := g) (c := c) (mB := mB) hE hW w)
  have h0 := hide hE.1
  have hf := hide hf
  have hlen := hide hlen
  clear HW hE hW
  go_enter Tryz.func29, Tryz.ntmps29
  go_wp2_with (first
    | (go_at_call 51; (refine H.out.mono ?_; rintro e w1 ⟨v, rfl, hrow, hb1⟩; obtain ⟨av, c1, rfl, hin⟩ := row_words hrow (by have := hlen.out; omega); obtain ⟨g, rfl⟩ : ∃ g, av = some ⟨g, 0, none⟩ := (by rcases hin.2 with h | ⟨g, e, _⟩; (· have := h0.out; rw [h] at this; exact absurd this (Nat.lt_irrefl 0)); exact ⟨g, e⟩); have hge := hide (show w.heap.size + 1 ≤ g ∧ g < w1.heap.size ∧ l.length ≤ c1 from (by have h9 := rowW_ge8 hrow; have e9 : (w.alloc z14O).heap.size = w.heap.size + 1 := (by simp); omega)); replace hin := hide hin; clear hrow; have B1 := hide (next st.out hb1); clear hb1))
    | (go_at_call 52; (refine (operations_any _).mono ?_; rintro e w2 ⟨rfl, hM, hb2⟩; have hro := rdr_ops B1.out hin.out hge.out hlen.out hM hb2; have R3 := hide hro.1; have M3 := hide hro.2.1; have B3 := hide hro.2.2.1; have hz3 := hide hro.2.2.2; clear hro; clear hM hb2))
    | (go_at_call 53; (refine (HF.out _ _ _ _ _ R3.out M3.out).mono ?_; rw [hf.out]; rintro e w4 ⟨rfl, hg4⟩; have B4 := hide (grown_next B3.out hg4 (Nat.le_of_lt hz3.out)); clear hg4)))
  exact ⟨rfl, rfl, B4.out⟩
set_option maxHeartbeats 4000000 in
set_option maxRecDepth 100000 in
theorem treeOf_tree {s : ByteArray} {l : List Wd} {t : Ex} {j : Nat} (hE : EndW l) (hW : WordOk l) (hlen : l.length ≤ 100000) (hf : formP rdF Fd0 l = .ok t j) (w : World) (HW : WordsP s (w.alloc z14O) l) : Calls Tryz.prog 29 #[.string s] w fun e w' => TRP w e w' (mayP t s.size) := by
  have H := hide HW
  have st := hide (step (Below.refl w.heap.size w) z14O)
  have X0 := hide (Blk.new w z14 30)
  have HF := hide (fun w B g c mB => formula_is (l := l) (B := B) (g := g) (c := c) (mB := mB) hE hW w)
  have h0 := hide hE.1
  have hf := hide hf
  have hlen := hide hlen
  have HM := hide (fun v w' (ht : Tree w' v t) => may_any t v w' ht)
  have hmay : Hid (mayR t = 0 → mayP t s.size = .ok t 0) := hide (fun h => if_pos h)
  have hno : Hid (¬ mayR t = 0 → mayP t s.size = .bad (mayR t).toNat s.size) := hide (fun h => if_neg h)
  have hq : ∃ q : Nat, mayR t = q := by
    unfold mayR
    split
    · split
      · exact ⟨0, rfl⟩
      · exact ⟨22, rfl⟩
    · exact ⟨2, rfl⟩
  obtain ⟨q, hq⟩ := hq
  rw [hq] at HM hmay hno
  clear HW hE hW
  by_cases h : q = 0
  · subst h
    rw [hmay.out rfl]
    clear hmay hno hq
    go_enter Tryz.func29, Tryz.ntmps29
    go_wp2_with (first
      | (go_at_call 51; refine H.out.mono ?_; rintro e w1 ⟨v, rfl, hrow, hb1⟩; obtain ⟨av, c1, rfl, hin⟩ := row_words hrow (by have := hlen.out; omega); obtain ⟨g, rfl⟩ : ∃ g, av = some ⟨g, 0, none⟩ := (by rcases hin.2 with h | ⟨g, e, _⟩; (· have := h0.out; rw [h] at this; exact absurd this (Nat.lt_irrefl 0)); exact ⟨g, e⟩); have hge := hide (show w.heap.size + 1 ≤ g ∧ g < w1.heap.size ∧ l.length ≤ c1 from (by have h9 := rowW_ge8 hrow; have e9 : (w.alloc z14O).heap.size = w.heap.size + 1 := (by simp); omega)); replace hin := hide hin; clear hrow; have B1 := hide (next st.out hb1); have X1 := hide (X0.out.keep hb1); clear hb1)
      | (go_at_call 52; refine (operations_any _).mono ?_; rintro e w2 ⟨rfl, hM, hb2⟩; have hro := rdr_ops B1.out hin.out hge.out hlen.out hM hb2; have R3 := hide hro.1; have M3 := hide hro.2.1; have B3 := hide hro.2.2.1; have hz3 := hide hro.2.2.2; clear hro; have X3 := hide ((X1.out.keep hb2).alloc (rdO g l.length c1 w1.heap.size)); clear hM hb2)
      | (go_at_call 53; refine (HF.out _ _ _ _ _ R3.out M3.out).mono ?_; rw [hf.out]; rintro e w4 ⟨a, len, cap, bs, rfl, hN, hg4, hsm⟩; have B5 := hide (step (grown_next B3.out hg4 (Nat.le_of_lt hz3.out)) (exO t.nd (.slice a len cap))); have X5 := hide ((blk_on X3.out (by have := hz3.out; omega) hg4).alloc (exO t.nd (.slice a len cap))); have K5 := hide (Blk.new w4 (exC t.nd (.slice a len cap)) 30); have T5 := hide (show Tree (w4.alloc (exO t.nd (.slice a len cap))) (exV t.nd (.slice a len cap)) t from (show Tree w4 _ t from hN.ow.in' t (fun k hk => (hN.at' k hk).2) hsm).step (step (Below.refl _ _) _)); have HM5 := hide (HM.out _ _ T5.out); have hsn := run_putnew w4 t.nd a len cap; have hz4 := hide (show w.heap.size < w4.heap.size from (by have h8 := X5.out.lt; have h7 := (blk_on X3.out (by have := hz3.out; omega) hg4).lt; exact h7)); have hzN := hide (show ∀ k ∈ bs, w.heap.size < k ∧ k < w4.heap.size from (fun k hk => ⟨by have h7 := (hN.at' k hk).1; have h8 := X3.out.lt; omega, (hN.at' k hk).2⟩)); replace hN := hide hN; replace hsm := hide hsm; clear hg4)
      | (refine wpList_load_blk rfl 30 _ rfl _ rfl _ (by with_reducible exact K6.out) _ Tryz.underlying30 rfl (exC_info _ _) ?_)
      | (refine wpList_load_blk rfl 30 _ rfl _ rfl _ (by with_reducible exact K5.out) _ Tryz.underlying30 rfl (exC_info _ _) ?_)
      | (go_at_call 12; refine HM5.out.mono ?_; rintro e w6 ⟨rfl, hb6⟩; have K6 := hide (K5.out.keep hb6); have B6 := hide (next B5.out hb6); have X6 := hide (X5.out.keep hb6); have O6 := hide (hN.out.ow.move (w' := w6) t (fun k hk => (hb6.block k (by have h9 := (hzN.out k hk).2; have e9 : (w4.alloc (exO t.nd (.slice a len cap))).heap.size = w4.heap.size + 1 := (by simp); omega)).trans (Below.heap_alloc w4 _ k (hzN.out k hk).2))); have hs6 := hide (show ∀ k ∈ bs, k < w6.heap.size from (fun k hk => by have h9 := (hzN.out k hk).2; have h8 := hb6.size; have e9 : (w4.alloc (exO t.nd (.slice a len cap))).heap.size = w4.heap.size + 1 := (by simp); omega)); have hsn2 := run_putrow t.nd a len cap X6.out rfl; clear hb6))
    refine bodyPost_ret (v := exV t.nd (.slice a len cap)) (results_cell_row Tryz.results29 _ _ w.heap.size 30 (exC t.nd (.slice a len cap)) (0, 0) _ rfl (setRow_heap _ _ _ _ _ _ X6.out) Tryz.underlying30 rfl (exC_info _ _)) rfl ?_
    exact ⟨a, len, cap, bs, rfl, ⟨O6.out.move _ (fun k hk => setRow_other _ _ _ _ (by have := (hzN.out k hk).1; omega)), hN.out.nd, fun k hk => ⟨Nat.le_of_lt (hzN.out k hk).1, by rw [size_setRow]; exact hs6.out k hk⟩⟩, below_setRow B6.out (Nat.le_refl _) _, hsm.out⟩
  · have h1 : ((q : Int) != 0) = true := by rw [bne_iff_ne]; omega
    rw [hno.out (by omega), Int.toNat_natCast]
    replace h := hide h
    clear hmay hno hq X0
    go_enter Tryz.func29, Tryz.ntmps29
    go_wp2_with (first
      | (go_at_call 51; refine H.out.mono ?_; rintro e w1 ⟨v, rfl, hrow, hb1⟩; obtain ⟨av, c1, rfl, hin⟩ := row_words hrow (by have := hlen.out; omega); obtain ⟨g, rfl⟩ : ∃ g, av = some ⟨g, 0, none⟩ := (by rcases hin.2 with h | ⟨g, e, _⟩; (· have := h0.out; rw [h] at this; exact absurd this (Nat.lt_irrefl 0)); exact ⟨g, e⟩); have hge := hide (show w.heap.size + 1 ≤ g ∧ g < w1.heap.size ∧ l.length ≤ c1 from (by have h9 := rowW_ge8 hrow; have e9 : (w.alloc z14O).heap.size = w.heap.size + 1 := (by simp); omega)); replace hin := hide hin; clear hrow; have B1 := hide (next st.out hb1); clear hb1)
      | (go_at_call 52; refine (operations_any _).mono ?_; rintro e w2 ⟨rfl, hM, hb2⟩; have hro := rdr_ops B1.out hin.out hge.out hlen.out hM hb2; have R3 := hide hro.1; have M3 := hide hro.2.1; have B3 := hide hro.2.2.1; have hz3 := hide hro.2.2.2; clear hro; clear hM hb2)
      | (go_at_call 53; refine (HF.out _ _ _ _ _ R3.out M3.out).mono ?_; rw [hf.out]; rintro e w4 ⟨a, len, cap, bs, rfl, hN, hg4, hsm⟩; have B5 := hide (step (grown_next B3.out hg4 (Nat.le_of_lt hz3.out)) (exO t.nd (.slice a len cap))); have K5 := hide (Blk.new w4 (exC t.nd (.slice a len cap)) 30); have T5 := hide (show Tree (w4.alloc (exO t.nd (.slice a len cap))) (exV t.nd (.slice a len cap)) t from (show Tree w4 _ t from hN.ow.in' t (fun k hk => (hN.at' k hk).2) hsm).step (step (Below.refl _ _) _)); have HM5 := hide (HM.out _ _ T5.out); have hsn := run_putnew w4 t.nd a len cap; replace hN := hide hN; replace hsm := hide hsm; clear hg4)
      | (refine wpList_load_blk rfl 30 _ rfl _ rfl _ (by with_reducible exact K5.out) _ Tryz.underlying30 rfl (exC_info _ _) ?_)
      | (go_at_call 12; refine HM5.out.mono ?_; rintro e w6 ⟨rfl, hb6⟩; have B6 := hide (next B5.out hb6); clear hb6))
    exact ⟨rfl, rfl, B6.out⟩
theorem parL_yes (n : Nat) (r : List UInt8) : parL n (61 :: r) = wdsR n (cutR (ba r)) := rfl
theorem parL_no (n : Nat) {c : UInt8} (h : ¬ c = 61) (r : List UInt8) : parL n (c :: r) = .bad 1 0 := if_neg h
/-- The tree of a formula that may be, or its first fault. -/
theorem treeOf_any (s : ByteArray) (hmax : s.size ≤ maxLen) (w : World) (hl : Lay8 w) : Calls Tryz.prog 29 #[.string s] w fun e w' => TRP w e w' (parR s) := by
  unfold parR
  cases hs : s.data.toList with
  | nil =>
    exact treeOf_bad w ((wordsOf_no (by rw [hs]; rfl) _).mono fun e w' h => ⟨h.1, by rw [h.2]; exact Below.refl _ _⟩)
  | cons c r =>
    by_cases hc : c = 61
    · subst hc
      rw [parL_yes]
      have hl' := hl.alloc z14O
      cases hr : cutR (ba r) with
      | bad i er => exact treeOf_bad w (wordsOf_bad hs hr hmax _ hl')
      | ok ws =>
        obtain ⟨hg, hlen, hsz, hat⟩ := cutR_wdg hr
        have HW : WordsP s (w.alloc z14O) (allW ws s.size) := wordsOf_ok hs hr hmax _ hl'
        unfold wdsR
        simp only
        cases hf : formP rdF Fd0 (allW ws s.size) with
        | bad er a => exact treeOf_fault (allW_end ws s.size) (allW_ok hg) (by rw [allW_len]; omega) hf w HW
        | ok t j => exact treeOf_tree (allW_end ws s.size) (allW_ok hg) (by rw [allW_len]; omega) hf w HW
    · rw [parL_no _ hc]
      refine treeOf_bad w ((wordsOf_no ?_ _).mono fun e w' h => ⟨h.1, by rw [h.2]; exact Below.refl _ _⟩)
      rw [hs]
      unfold Lib.hasPrefix
      simp [List.isPrefixOf, Ne.symm hc]
end Go.Proofs.YtdlomdbmmhjppaaGreatDoor.T9
