/- quadrilleref11: every tree's text, and Formula. -/
import Derived.Test.YtbpogngnhhkjbaaDoorRgJ
import Derived.Test.YtbpogngnhhkjbaaDoorRzJ
import Derived.Test.YtbpogngnhhkjbaaDoorRvJ
import Derived.Test.YtbpogngnhhkjbaaDoorFoJ
import Derived.Test.YtbpogngnhhkjbaaDoorRAll9
import Derived.Test.YtbpogngnhhkjbaaDoorGrJ
import Derived.Laws.BytesArg
namespace Go.Proofs.YtbpogngnhhkjbaaDoor.T9
open Go.RowKit Go.Sort
set_option linter.unusedVariables false

theorem rtx_all (w0 : World) : ∀ t : Ex, allE t = true → NumE t → bytesE t ≤ 16384 → TxIs w0 t := by
  refine Ex.ind fun nd ks ih => ?_
  intro ha hN hb
  have ha0 := ha
  rw [allE, Bool.and_eq_true] at ha
  rw [NumE] at hN
  rw [bytesE] at hb
  have ih' : ∀ k ∈ ks, TxIs w0 k := fun k hk => ih k hk (all_kid ha.2 hk) (num_kid hN.2 hk) (by have := bytes_mem hk; omega)
  have fr' : ∀ k ∈ ks, FrIs w0 k := fun k hk => rfr_all w0 k (fun h8 => by
    obtain ⟨n1, k1⟩ := k
    have hk1 := all_kid ha.2 hk
    rw [allE, Bool.and_eq_true] at hk1
    exact (ok8 hk1.1 h8).1) (ih' k hk)
  rcases told_kind ha.1 with h | h | h | h | h | h | h | h | h
  · exact rtx_1 w0 nd ks h (shape1 ha.1 h).2.1 hN.1
  · exact rtx_2 w0 nd ks h (by rw [if_pos h] at hb; omega)
  · exact rtx_3 w0 nd ks h
  · exact rtx_4 w0 nd ks h (shape4 ha.1 h).2.1
  · exact rtx_5 w0 nd ks h (shape5 ha.1 h).2.1
  · exact rtx_6 w0 nd ks h (shape6 ha.1 h).2.1 (shape6 ha.1 h).2.2.1
  · obtain ⟨k, rfl⟩ := List.length_eq_one_iff.1 (ok7 ha.1 h)
    rcases (show nd.op = 1 ∨ nd.op = 2 ∨ nd.op = 3 by have := (shape7 ha.1 h).2; omega) with o | o | o
    · exact rtx_71 w0 nd k h o (fr' k (by simp))
    · exact rtx_72 w0 nd k h o (fr' k (by simp))
    · exact rtx_73 w0 nd k h o (fr' k (by simp))
  · obtain ⟨k, j, rfl⟩ := len_two (ok8 ha.1 h).2
    exact rtx_8 w0 nd k j h (ok8 ha.1 h).1 (fr' k (by simp)) (fr' j (by simp))
  · exact rtx_9 w0 nd ks h (ok9 ha.1 h) ih'
theorem owB_lit {w : World} {B : Nat} (hB : B ≤ w.heap.size) (c : UInt8) (k : Int) (hk : (c.toNat : Int) = k) : OwB (w.alloc (.cells #[.int .u8 k] 5)) B (.slice (some ⟨w.heap.size, 0, none⟩) 1 1) [c] := by
  subst hk
  exact ⟨Nat.le_refl _, rfl, .inr ⟨w.heap.size, 1, #[.int .u8 (c.toNat : Int)], rfl, hB, Blk.new w _ _, Nat.le_refl _, by decide, rfl, rfl⟩⟩
theorem owB_conv {w : World} {B : Nat} {v : Value} {L : List UInt8} (h : OwB w B v L) : (convert 37 9 v).run Tryd.prog w = .ok (.string ⟨L.toArray⟩) w := by
  obtain ⟨hl, h⟩ := h.2
  have hvs : Lib.byteCells L = L.map fun c => Value.int .u8 (c.toNat : Int) := rfl
  rw [hvs, List.length_map, Nat.mul_one] at hl
  rcases h with ⟨rfl, h0⟩ | ⟨g, cap, cur, rfl, _, hg, _, _, _, ht⟩
  · obtain rfl := List.eq_nil_of_length_eq_zero h0
    exact run_convert_bytes_nil w 37 5 Tryd.underlying37 Tryd.underlying5 0 0 9 Tryd.underlying9
  · have hc := run_convert_bytes_arg (P := Tryd.prog) w 37 5 Tryd.underlying37 Tryd.underlying5 g 0 L.length cap (L.map fun x => (x.toNat : Int)) (by simp) (fun i hi => by
      have e : cur.toList[i]? = some (.int .u8 ((L.map fun x => (x.toNat : Int)).getD i 0)) := by
        have h1 : (cur.toList.take (L.length * 1))[i]? = cur.toList[i]? := by rw [List.getElem?_take]; rw [if_pos (by omega)]
        rw [← h1, ht, hvs]
        simp [List.getElem?_map, List.getD, List.getElem?_eq_getElem (show i < L.length by omega)]
      unfold World.cell?
      simp [hg]
      simpa using e) 9 Tryd.underlying9
    refine hc.trans (congrArg (fun s => Result.ok (Value.string s) w) ?_)
    apply ByteArray.ext
    apply Array.ext'
    rw [strOfNums_data, List.map_map]
    conv => rhs; rw [show (L.toArray).toList = L.map id from (List.map_id L).symm]
    apply List.map_congr_left
    intro x _
    simp
set_option maxHeartbeats 2000000 in
set_option maxRecDepth 100000 in
theorem rfo_any (t : Ex) (v : Value) (w : World) (ht : Tree w v t) (hN : NumE t) : Calls Tryd.prog 5 #[v] w fun e w' => e = .returned (forV t) ∧ Below w.heap.size w w' := by
  have HM := hide (fun w' (h : Below w.heap.size w w') => rmay_any t v w' (ht.step h))
  by_cases hm : mayR t = 0
  · have e : forV t = .tuple #[.string (ba (61 :: txE t)), .int .i64 0] := by unfold forV; rw [if_pos hm]
    rw [e]
    have hs := txE_short hm hN
    obtain ⟨hf, ha⟩ := may_all hm
    have hf := of_decide_eq_true hf
    have HT := hide (fun b w' (h1 : Below w.heap.size w w') (h2 : OwB w' w.heap.size b [61]) => rtx_all w t ha hN hf.2.2 v b [61] w' ht h1 h2 (by simp; omega))
    rw [hm] at HM
    obtain ⟨nd, ks⟩ := t
    obtain ⟨a, len, cap, rfl, _, _, _, _⟩ := ht.un
    have P0 := hide (Blk.new w (exC nd (.slice a len cap)) 30)
    have B0 := hide (step (Below.refl w.heap.size w) (exO nd (.slice a len cap)))
    generalize txE (.mk nd ks) = U at *
    clear ht hN e hs ha hf hm
    go_enter Tryd.func5, Tryd.ntmps5
    go_wp2_with (first
      | (refine wpList_load_blk rfl 30 _ rfl _ rfl _ (by with_reducible exact P2.out) _ Tryd.underlying30 rfl (exC_info _ _) ?_)
      | (refine wpList_load_blk rfl 30 _ rfl _ rfl _ (by with_reducible exact P0.out) _ Tryd.underlying30 rfl (exC_info _ _) ?_)
      | (go_at_call 11; refine (HM.out _ B0.out).mono ?_; rintro e w1 ⟨rfl, hb⟩; have B1 := hide (next B0.out hb); have P2 := hide ((P0.out.keep hb).alloc (.cells #[.int .u8 61] 5)); have B2 := hide (step (next B0.out hb) (.cells #[.int .u8 61] 5)); have O2 := hide (owB_lit (w := w1) (B := w.heap.size) (next B0.out hb).size 61 61 rfl); clear hb)
      | (go_at_call 12; refine (HT.out _ _ B2.out O2.out).mono ?_; rintro e w3 ⟨b3, rfl, h1, h2⟩; have B3 := hide (B2.out.trans h2.low); have hcv := owB_conv h1; clear h1 h2))
    go_ret2
    exact ⟨rfl, B3.out⟩
  · have e : forV t = .tuple #[.string no, .int .i64 (mayR t)] := by unfold forV; rw [if_neg hm]
    rw [e]
    have hm' : (mayR t == 0) = false := by simpa using hm
    have hm2 : (mayR t != 0) = true := by simpa using hm
    obtain ⟨nd, ks⟩ := t
    obtain ⟨a, len, cap, rfl, _, _, _, _⟩ := ht.un
    have P0 := hide (Blk.new w (exC nd (.slice a len cap)) 30)
    have B0 := hide (step (Below.refl w.heap.size w) (exO nd (.slice a len cap)))
    generalize mayR (.mk nd ks) = M at *
    clear ht hN e
    go_enter Tryd.func5, Tryd.ntmps5
    go_wp2_with (first
      | (refine wpList_load_blk rfl 30 _ rfl _ rfl _ (by with_reducible exact P0.out) _ Tryd.underlying30 rfl (exC_info _ _) ?_)
      | (go_at_call 11; refine (HM.out _ B0.out).mono ?_; rintro e w1 ⟨rfl, hb⟩; have B1 := hide (next B0.out hb); clear hb))
    go_ret2
    exact ⟨rfl, B1.out⟩
end Go.Proofs.YtbpogngnhhkjbaaDoor.T9
