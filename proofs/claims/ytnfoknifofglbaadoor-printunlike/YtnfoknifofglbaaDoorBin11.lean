/- quadrillelaw11.num and bin: a number's node, a node of two kids, its list new; begun: the calls whose answers the document fixes. -/
import Derived.Test.YtnfoknifofglbaaDoorForm11
import Derived.Test.YtnfoknifofglbaaDoorROwnW9
namespace Go.Proofs.YtnfoknifofglbaaDoor.T9
open Go.RowKit Go.Sort
set_option linter.unusedVariables false

abbrev z14 : Array Value := #[.int .i64 0, .int .i64 0, .int .i64 0, .string { data := #[] }, .int .i64 0, .int .i64 0, .bool false, .bool false, .int .i64 0, .int .i64 0, .bool false, .bool false, .int .i64 0, .slice none 0 0]
abbrev z14O : Obj := .cells z14 26
abbrev nd1 (n : Int) : Nd := ⟨1, 0, n, no, ⟨0, 0, false, false⟩, ⟨0, 0, false, false⟩, 0⟩
abbrev nd8 (op : Int) : Nd := ⟨8, op, 0, no, ⟨0, 0, false, false⟩, ⟨0, 0, false, false⟩, 0⟩
theorem num_any (n : Int) (w : World) : Calls Tryd.prog 15 #[.int .i64 n] w fun e w' => e = .returned (exV (nd1 n) (.slice none 0 0)) ∧ Below w.heap.size w w' := by
  go_enter Tryd.func15, Tryd.ntmps15
  go_wp2_with fail
  refine bodyPost_ret (v := exV (nd1 n) (.slice none 0 0)) (by simp [results, Tryd.results15, go_sem]; try rfl) rfl ?_
  exact ⟨rfl, by go_grown⟩
theorem built2 (n m : Nd) (s r : Value) : Tryd.prog.builtSlice 26 2 [(0, exV n s), (1, exV m r)] = some (exC n s ++ exC m r) := by kernel_rfl
theorem Blk.row2 {w : World} {B : Nat} {n m : Nd} {s r : Value} {t : TypeId} (h : Blk w B (exC n s ++ exC m r) t) : w.rangeAt B 0 (exC n s).toList ∧ w.rangeAt B (0 + 14) (exC m r).toList := by
  refine ⟨fun j v hv => ?_, fun j v hv => ?_⟩
  · have hj : j < 14 := by have := (List.getElem?_eq_some_iff.1 hv).1; rwa [exC_len] at this
    rw [h.at' (0 + j), Nat.zero_add, Array.getElem?_append_left (by rw [exC_size]; exact hj)]
    rw [← hv, Array.getElem?_toList]
  · have hj : j < 14 := by have := (List.getElem?_eq_some_iff.1 hv).1; rwa [exC_len] at this
    rw [h.at' (0 + 14 + j), Array.getElem?_append_right (by rw [exC_size]; omega), exC_size, show 0 + 14 + j - 14 = j by omega]
    rw [← hv, Array.getElem?_toList]
set_option maxHeartbeats 1000000 in
set_option maxRecDepth 100000 in
theorem bin_any (op : Int) (n1 n2 : Nd) (a1 a2 : Option Addr) (l1 l2 p1 p2 : Nat) (t u : Ex) (w : World) (h1 : Tree w (exV n1 (.slice a1 l1 p1)) t) (h2 : Tree w (exV n2 (.slice a2 l2 p2)) u) :
    Calls Tryd.prog 14 #[.int .i64 op, exV n1 (.slice a1 l1 p1), exV n2 (.slice a2 l2 p2)] w fun e w' => ∃ g, e = .returned (exV (nd8 op) (.slice (some ⟨g, 0, none⟩) 2 2)) ∧ Tree w' (exV (nd8 op) (.slice (some ⟨g, 0, none⟩) 2 2)) (.mk (nd8 op) [t, u]) ∧ Below w.heap.size w w' := by
  have X0 := hide (((Blk.new w (exC n1 (.slice a1 l1 p1)) 26).alloc (exO n2 (.slice a2 l2 p2))).alloc z14O)
  have X1 := hide ((Blk.new1 w (exO n1 (.slice a1 l1 p1)) (exC n2 (.slice a2 l2 p2)) 26).alloc z14O)
  have X2 : ((((w.alloc (exO n1 (.slice a1 l1 p1))).alloc (exO n2 (.slice a2 l2 p2))).alloc z14O).alloc (.cells (exC n1 (.slice a1 l1 p1) ++ exC n2 (.slice a2 l2 p2)) 26)).heap[w.heap.size + 1 + 1]? = some (.cells z14 26 (0, 0)) := (Blk.new2 w (exO n1 (.slice a1 l1 p1)) (exO n2 (.slice a2 l2 p2)) z14 26).alloc _
  have X3 := hide (Blk.new3 w (exO n1 (.slice a1 l1 p1)) (exO n2 (.slice a2 l2 p2)) z14O (exC n1 (.slice a1 l1 p1) ++ exC n2 (.slice a2 l2 p2)) 26)
  have hB := hide (step (step (step (step (Below.refl w.heap.size w) (exO n1 (.slice a1 l1 p1))) (exO n2 (.slice a2 l2 p2))) z14O) (.cells (exC n1 (.slice a1 l1 p1) ++ exC n2 (.slice a2 l2 p2)) 26))
  replace h1 := hide h1
  replace h2 := hide h2
  go_enter Tryd.func14, Tryd.ntmps14
  go_wp2_with (first
    | (refine wpList_load_blk rfl 26 _ rfl _ rfl _ (by with_reducible exact X0.out) _ Tryd.underlying26 rfl (exC_info _ _) ?_)
    | (refine wpList_load_blk rfl 26 _ rfl _ rfl _ (by with_reducible exact X1.out) _ Tryd.underlying26 rfl (exC_info _ _) ?_)
    | (refine Go.Great.wpList_buildSliceTo rfl 24 26 2 _ rfl (w.heap.size + 1 + 1 + 1) (by simp) _ rfl Tryd.underlying24 (exC n1 (.slice a1 l1 p1) ++ exC n2 (.slice a2 l2 p2)) (by rw [Array.toList_map]; exact built2 _ _ _ _) ?_)
    | (refine wpList_store_row rfl 26 _ _ rfl _ (exC (nd8 op) (.slice (some ⟨w.heap.size + 1 + 1 + 1, 0, none⟩) 2 2)) rfl rfl 26 _ (by with_reducible exact X2) (exC_info _ _) (by rfl) (exC_one _ _ _ _) ?_))
  refine bodyPost_ret (v := exV (nd8 op) (.slice (some ⟨w.heap.size + 1 + 1 + 1, 0, none⟩) 2 2)) (results_cell_row Tryd.results14 _ _ (w.heap.size + 1 + 1) 26 (exC (nd8 op) (.slice (some ⟨w.heap.size + 1 + 1 + 1, 0, none⟩) 2 2)) (0, 0) _ rfl (Blk.setRow (show Blk _ (w.heap.size + 1 + 1) z14 26 from X2)) Tryd.underlying26 rfl (exC_info _ _)) rfl ?_
  have hB' : Hid (Below w.heap.size w (((((w.alloc (exO n1 (.slice a1 l1 p1))).alloc (exO n2 (.slice a2 l2 p2))).alloc z14O).alloc (.cells (exC n1 (.slice a1 l1 p1) ++ exC n2 (.slice a2 l2 p2)) 26)).setRow (w.heap.size + 1 + 1) (exC (nd8 op) (.slice (some ⟨w.heap.size + 1 + 1 + 1, 0, none⟩) 2 2)))) := hide (below_setRow hB.out (by omega) _)
  have kg : Blk (((((w.alloc (exO n1 (.slice a1 l1 p1))).alloc (exO n2 (.slice a2 l2 p2))).alloc z14O).alloc (.cells (exC n1 (.slice a1 l1 p1) ++ exC n2 (.slice a2 l2 p2)) 26)).setRow (w.heap.size + 1 + 1) (exC (nd8 op) (.slice (some ⟨w.heap.size + 1 + 1 + 1, 0, none⟩) 2 2))) (w.heap.size + 1 + 1 + 1) (exC n1 (.slice a1 l1 p1) ++ exC n2 (.slice a2 l2 p2)) 26 := (setRow_other _ _ _ _ (by omega)).trans X3.out
  obtain ⟨r1, r2⟩ := kg.row2
  refine ⟨w.heap.size + 1 + 1 + 1, rfl, ?_, hB'.out⟩
  have T1 := h1.out.step hB'.out
  have T2 := h2.out.step hB'.out
  have hlt := kg.lt
  unfold Tree In
  refine ⟨_, 2, 2, rfl, rfl, by omega, by show (0 : Nat) ≤ 4611686018427387904; omega, .inr ⟨_, 0, rfl, hlt, ?_⟩⟩
  unfold Kids
  refine ⟨⟨_, T1, r1⟩, ?_⟩
  unfold Kids
  refine ⟨⟨_, T2, r2⟩, ?_⟩
  unfold Kids
  trivial
def mulT : Ex := .mk (nd8 2) [.mk (nd8 4) [.mk (nd1 1) [], .mk (nd1 2) []], .mk (nd1 3) []]
def subT : Ex := .mk (nd8 5) [.mk (nd1 1) [], .mk (nd8 5) [.mk (nd1 2) [], .mk (nd1 3) []]]
theorem may_mul : mayR mulT = 0 := by decide +kernel
theorem may_sub : mayR subT = 0 := by decide +kernel
theorem may_neg1 : mayR (.mk (nd1 (-1)) []) = 22 := by decide +kernel
theorem it1 : Lib.itoa 1 = [49] := by rw [show (1 : Int) = ((1 : Nat) : Int) from rfl, itoa_pos, dec_small (by omega)]; rfl
theorem it2 : Lib.itoa 2 = [50] := by rw [show (2 : Int) = ((2 : Nat) : Int) from rfl, itoa_pos, dec_small (by omega)]; rfl
theorem it3 : Lib.itoa 3 = [51] := by rw [show (3 : Int) = ((3 : Nat) : Int) from rfl, itoa_pos, dec_small (by omega)]; rfl
theorem tx_num (n : Int) : txE (.mk (nd1 n) []) = Lib.itoa n := by rw [txE_mk]; rfl
theorem tx_mul : txE mulT = [40, 49, 43, 50, 41, 42, 51] := by
  unfold mulT
  rw [txE_mk]
  simp only [List.map_cons, List.map_nil, tx_num, it3]
  rw [txE_mk]
  simp only [List.map_cons, List.map_nil, tx_num, it1, it2]
  rfl
theorem tx_sub : txE subT = [49, 45, 40, 50, 45, 51, 41] := by
  unfold subT
  rw [txE_mk]
  simp only [List.map_cons, List.map_nil, tx_num, it1]
  rw [txE_mk]
  simp only [List.map_cons, List.map_nil, tx_num, it2, it3]
  rfl
theorem forV_mul : forV mulT = .tuple #[.string ⟨#[61, 40, 49, 43, 50, 41, 42, 51]⟩, .int .i64 0] := by unfold forV; rw [if_pos may_mul, tx_mul]
theorem forV_sub : forV subT = .tuple #[.string ⟨#[61, 49, 45, 40, 50, 45, 51, 41]⟩, .int .i64 0] := by unfold forV; rw [if_pos may_sub, tx_sub]
theorem forV_neg : forV (.mk (nd1 (-1)) []) = .tuple #[.string no, .int .i64 22] := by unfold forV; rw [if_neg (by rw [may_neg1]; decide), may_neg1]
theorem num_mul : NumE mulT := by unfold mulT; simp [NumE, NumL]
theorem num_sub : NumE subT := by unfold subT; simp [NumE, NumL]
set_option maxHeartbeats 2000000 in
set_option maxRecDepth 100000 in
theorem begun11 (w : World) (hl : Lay11 w) : Calls Tryd.prog 6 #[] w fun e w' => e = .returned (.bool true) ∧ Below w.heap.size w w' := by
  have HF := hide (fun t v w' (hb : Below w.heap.size w w') (ht : Tree w' v t) (hN : NumE t) => formula_any t v w' ht (hl.keep hb) hN)
  clear hl
  go_enter Tryd.func6, Tryd.ntmps6
  have B0 := hide (Below.refl w.heap.size w)
  go_wp2_with (first
    | (have hq := B8; go_at_call 15; refine (num_any 3 _).mono ?_; rintro e w9 ⟨rfl, hb⟩; clear hq; have B9 := hide (next B8.out hb);  clear hb)
    | (have hq := B7; go_at_call 15; refine (num_any 2 _).mono ?_; rintro e w8 ⟨rfl, hb⟩; clear hq; have B8 := hide (next B7.out hb);  clear hb)
    | (have hq := B6; go_at_call 15; refine (num_any 1 _).mono ?_; rintro e w7 ⟨rfl, hb⟩; clear hq; have B7 := hide (next B6.out hb);  clear hb)
    | (have hq := B3; go_at_call 15; refine (num_any 3 _).mono ?_; rintro e w4 ⟨rfl, hb⟩; clear hq; have B4 := hide (next B3.out hb); have T4 := hide (T3.out.step hb); clear hb)
    | (have hq := B1; go_at_call 15; refine (num_any 2 _).mono ?_; rintro e w2 ⟨rfl, hb⟩; clear hq; have B2 := hide (next B1.out hb);  clear hb)
    | (have hq := B0; go_at_call 15; refine (num_any 1 _).mono ?_; rintro e w1 ⟨rfl, hb⟩; clear hq; have B1 := hide (next B0.out hb);  clear hb)
    | (have hq := B10; go_at_call 14; refine (bin_any 5 _ _ _ _ _ _ _ _ _ _ _ (leaf_tree _ (nd1 1) (Nat.zero_le _)) T10.out).mono ?_; rintro e w11 ⟨g11, rfl, ht, hb⟩; clear hq; have B11 := hide (next B10.out hb); have T11 := hide ht; clear hb ht)
    | (have hq := B9; go_at_call 14; refine (bin_any 5 _ _ _ _ _ _ _ _ _ _ _ (leaf_tree _ (nd1 2) (Nat.zero_le _)) (leaf_tree _ (nd1 3) (Nat.zero_le _))).mono ?_; rintro e w10 ⟨g10, rfl, ht, hb⟩; clear hq; have B10 := hide (next B9.out hb); have T10 := hide ht; clear hb ht)
    | (have hq := B4; go_at_call 14; refine (bin_any 2 _ _ _ _ _ _ _ _ _ _ _ T4.out (leaf_tree _ (nd1 3) (Nat.zero_le _))).mono ?_; rintro e w5 ⟨g5, rfl, ht, hb⟩; clear hq; have B5 := hide (next B4.out hb); have T5 := hide ht; clear hb ht)
    | (have hq := B2; go_at_call 14; refine (bin_any 4 _ _ _ _ _ _ _ _ _ _ _ (leaf_tree _ (nd1 1) (Nat.zero_le _)) (leaf_tree _ (nd1 2) (Nat.zero_le _))).mono ?_; rintro e w3 ⟨g3, rfl, ht, hb⟩; clear hq; have B3 := hide (next B2.out hb); have T3 := hide ht; clear hb ht)
    | (have hq := B12; go_at_call 8; refine (HF.out (.mk (nd1 (-1)) []) _ _ B12.out (leaf_tree _ (nd1 (-1)) (Nat.zero_le _)) (by simp [NumE, NumL])).mono ?_; rw [forV_neg]; rintro e w13 ⟨rfl, hb⟩; clear hq; have B13 := hide (next B12.out hb); clear hb)
    | (have hq := B11; go_at_call 8; refine (HF.out subT _ _ B11.out T11.out num_sub).mono ?_; rw [forV_sub]; rintro e w12 ⟨rfl, hb⟩; clear hq; have B12 := hide (next B11.out hb); clear hb)
    | (have hq := B5; go_at_call 8; refine (HF.out mulT _ _ B5.out T5.out num_mul).mono ?_; rw [forV_mul]; rintro e w6 ⟨rfl, hb⟩; clear hq; have B6 := hide (next B5.out hb); clear hb))
  go_ret
  exact ⟨rfl, B13.out⟩
end Go.Proofs.YtnfoknifofglbaaDoor.T9
