/- print.textOf and print.Formula: what they answer of every tree. quadrillelaw11.num and bin: a number's node, a node of two kids, its list new; begun: the calls whose answers the document fixes. -/
import Derived.Test.YtbpogngnhhkjbaaDoorPrJ
import Derived.Test.YtbpogngnhhkjbaaDoorLuJ
import Derived.Test.YtbpogngnhhkjbaaDoorLayC11
import Derived.Test.YtbpogngnhhkjbaaDoorTxJ
import Derived.Test.YtbpogngnhhkjbaaDoorCoJ
namespace Go.Proofs.YtbpogngnhhkjbaaDoor.T9
open Go.RowKit Go.Sort
set_option linter.unusedVariables false

theorem ok7 {nd : Nd} {len : Nat} (h : toldB nd len = true) (hk : nd.kind = 7) : len = 1 := by
  unfold toldB okOf at h; simp only [hk] at h; simp at h; exact h.1.1.2.2
theorem ok8 {nd : Nd} {len : Nat} (h : toldB nd len = true) (hk : nd.kind = 8) : (1 ≤ nd.op ∧ nd.op ≤ 12) ∧ len = 2 := by
  unfold toldB okOf at h; simp only [hk] at h; simp at h; exact ⟨⟨h.1.1.1, h.1.1.2.1⟩, h.1.1.2.2⟩
theorem ok9 {nd : Nd} {len : Nat} (h : toldB nd len = true) (hk : nd.kind = 9) : 1 ≤ nd.fn ∧ nd.fn ≤ 76 := by
  unfold toldB okOf at h; simp only [hk] at h; simp at h
  have := h.1.1
  unfold takesB at this
  split at this
  · rename_i q; exact q
  · cases this
/-- The closure lays every tree that may be. -/
theorem lay_all (w0 : World) (hl : Lay11 w0) (b L : Nat) : ∀ t : Ex, allE t = true → NumE t → bytesE t ≤ 16384 → LayIs11 w0 b L t := by
  refine Ex.ind fun nd ks ih => ?_
  intro ha hN hb
  rw [allE, Bool.and_eq_true] at ha
  rw [NumE] at hN
  rw [bytesE] at hb
  have ih' : ∀ k ∈ ks, LayIs11 w0 b L k := fun k hk => ih k hk (all_kid ha.2 hk) (num_kid hN.2 hk) (by have := bytes_mem hk; omega)
  refine lay_br w0 hl b L _ (fun h8 => (ok8 ha.1 h8).1) ?_
  by_cases h7 : nd.kind = 7
  · obtain ⟨k, rfl⟩ := List.length_eq_one_iff.1 (ok7 ha.1 h7)
    exact core_un w0 hl b L nd k h7 (ih' k (by simp))
  by_cases h8 : nd.kind = 8
  · obtain ⟨k, j, rfl⟩ := len_two (ok8 ha.1 h8).2
    exact core_bin w0 hl b L nd k j h8 (ok8 ha.1 h8).1 (ih' k (by simp)) (ih' j (by simp))
  by_cases h9 : nd.kind = 9
  · exact core_call w0 hl b L nd ks h9 (ok9 ha.1 h9) ih'
  exact core_leaf w0 hl b L nd ks ha.1 h7 h8 h9 hN.1 (fun h2 => by rw [if_pos h2] at hb; omega)
theorem bld_new (w : World) (ob : Obj) : Lib.IsBuilderF tB tU w.heap.size (w.heap.size + 1) (Lib.byteCells []) ((w.alloc ob).alloc (.cells #[.pointer none, .slice none 0 0] tB)) := by
  refine .inl ⟨by omega, .slice none 0 0, ?_, World.ownsRowF_nil _ _ _ _, by simp [Value.ownBlock]⟩
  have := heap_alloc_new (w.alloc ob) (.cells #[.pointer none, .slice none 0 0] tB)
  simpa only [World.size_alloc] using this
set_option maxHeartbeats 2000000 in
set_option maxRecDepth 100000 in
theorem textOf_any (t : Ex) (v : Value) (w : World) (ht : Tree w v t) (hl : Lay11 w) (hm : mayR t = 0) (hN : NumE t) : Calls Tryd.prog 14 #[v] w fun e w' => e = .returned (.string (ba (txE t))) ∧ Below w.heap.size w w' := by
  have hs := txE_short hm hN
  obtain ⟨hf, ha⟩ := may_all hm
  have hf := of_decide_eq_true hf
  have HI := hide (fun (L : Nat) (w' : World) (h : Lng w (w.heap.size + 1) L [] w') => lay_all w hl (w.heap.size + 1) L t ha hN hf.2.2 v 1 [] w' ht h (by rw [frE_core (lv_pos _)]; simp; omega))
  rw [frE_core (lv_pos _), List.nil_append] at HI
  obtain ⟨nd, ks⟩ := t
  obtain ⟨a, len, cap, rfl, _, _, _, _⟩ := ht.un
  generalize txE (.mk nd ks) = U at *
  have L0 : Hid (Lng w (w.heap.size + 1) (w.heap.size + 1 + 1) [] (((w.alloc (exO nd (.slice a len cap))).alloc (.cells #[.pointer none, .slice none 0 0] tB)).alloc (.cells #[layV (w.heap.size + 1) (w.heap.size + 1 + 1)] tL))) := hide
    ⟨step (step (step (Below.refl _ w) _) _) _, (bld_new w _).alloc _, Blk.new2 w _ _ _ _, by omega⟩
  have P0 := hide (((Blk.new w (exC nd (.slice a len cap)) 30).alloc (.cells #[.pointer none, .slice none 0 0] tB)).alloc (.cells #[layV (w.heap.size + 1) (w.heap.size + 1 + 1)] tL))
  have V0 := L0.out.var.one
  clear ht hl hm hN hs ha hf
  go_enter Tryd.func14, Tryd.ntmps14
  go_wp2_with (first
    | (go_at_call 38; refine (Tryd.Builder_String_any_k w.heap.size (w.heap.size + 1) U w1 L1.out.bld L1.out.low.size).mono ?_; rintro e w2 ⟨rfl, _, h2, _⟩; have B2 := hide (L1.out.low.trans h2); clear h2)
    | (refine wpList_load_blk rfl 30 _ rfl _ rfl _ (by with_reducible exact P0.out) _ Tryd.underlying30 rfl (exC_info _ _) ?_)
    | (go_at_call 31; refine (HI.out _ _ L0.out).mono ?_; rintro e w1 ⟨rfl, h1, h2⟩; have L1 := hide h1; clear h1 h2))
  go_ret
  exact ⟨rfl, B2.out⟩
/-- What Formula answers. -/
def forV (t : Ex) : Value := if mayR t = 0 then .tuple #[.string (ba (61 :: txE t)), .int .i64 0] else .tuple #[.string no, .int .i64 (mayR t)]
set_option maxHeartbeats 2000000 in
set_option maxRecDepth 100000 in
theorem formula_any (t : Ex) (v : Value) (w : World) (ht : Tree w v t) (hl : Lay11 w) (hN : NumE t) : Calls Tryd.prog 6 #[v] w fun e w' => e = .returned (forV t) ∧ Below w.heap.size w w' := by
  have HM := hide (fun w' (h : Below w.heap.size w w') => may_any t v w' (ht.step h))
  have HT := hide (fun w' (h : Below w.heap.size w w') (hm : mayR t = 0) => textOf_any t v w' (ht.step h) (hl.keep h) hm hN)
  have hs := hide (fun (hm : mayR t = 0) => txE_short hm hN)
  obtain ⟨nd, ks⟩ := t
  obtain ⟨a, len, cap, rfl, _, _, _, _⟩ := ht.un
  have P0 := hide (Blk.new w (exC nd (.slice a len cap)) 30)
  have B0 := hide (step (Below.refl w.heap.size w) (exO nd (.slice a len cap)))
  by_cases hm : mayR (.mk nd ks) = 0
  · have e : forV (.mk nd ks) = .tuple #[.string (ba (61 :: txE (.mk nd ks))), .int .i64 0] := by unfold forV; rw [if_pos hm]
    rw [e]
    have s1 := fun w => addl_run (a := [61]) (b := txE (.mk nd ks)) (by have := hs.out hm; simp; omega) w
    have HT' := hide (fun w' (h : Below w.heap.size w w') => HT.out w' h hm)
    rw [hm] at HM
    generalize txE (.mk nd ks) = U at *
    clear ht hl hN e HT hs
    go_enter Tryd.func6, Tryd.ntmps6
    go_wp2_with (first
      | (refine wpList_load_blk rfl 30 _ rfl _ rfl _ (by with_reducible exact P0.out) _ Tryd.underlying30 rfl (exC_info _ _) ?_)
      | (refine wpList_load_blk rfl 30 _ rfl _ rfl _ (by with_reducible exact P1.out) _ Tryd.underlying30 rfl (exC_info _ _) ?_)
      | (go_at_call 13; refine (HM.out _ B0.out).mono ?_; rintro e w1 ⟨rfl, hb⟩; have B1 := hide (next B0.out hb); have P1 := hide (P0.out.keep hb); clear hb)
      | (go_at_call 14; refine (HT'.out _ B1.out).mono ?_; rintro e w2 ⟨rfl, hb⟩; have B2 := hide (next B1.out hb); clear hb))
    go_ret2
    exact ⟨rfl, B2.out⟩
  · have e : forV (.mk nd ks) = .tuple #[.string no, .int .i64 (mayR (.mk nd ks))] := by unfold forV; rw [if_neg hm]
    rw [e]
    have hm' : (mayR (.mk nd ks) == 0) = false := by simpa using hm
    have hm2 : (mayR (.mk nd ks) != 0) = true := by simpa using hm
    generalize mayR (.mk nd ks) = M at *
    clear ht hl hN e HT hs
    go_enter Tryd.func6, Tryd.ntmps6
    go_wp2_with (first
      | (refine wpList_load_blk rfl 30 _ rfl _ rfl _ (by with_reducible exact P0.out) _ Tryd.underlying30 rfl (exC_info _ _) ?_)
      | (go_at_call 13; refine (HM.out _ B0.out).mono ?_; rintro e w1 ⟨rfl, hb⟩; have B1 := hide (next B0.out hb); clear hb))
    go_ret2
    exact ⟨rfl, B1.out⟩
end Go.Proofs.YtbpogngnhhkjbaaDoor.T9
namespace Go.Proofs.YtbpogngnhhkjbaaDoor.T9
open Go.RowKit Go.Sort
set_option linter.unusedVariables false

abbrev z14b : Array Value := #[.int .i64 0, .int .i64 0, .int .i64 0, .string { data := #[] }, .int .i64 0, .int .i64 0, .bool false, .bool false, .int .i64 0, .int .i64 0, .bool false, .bool false, .int .i64 0, .slice none 0 0]
abbrev z14Ob : Obj := .cells z14b 30
abbrev nd1 (n : Int) : Nd := ⟨1, 0, n, no, ⟨0, 0, false, false⟩, ⟨0, 0, false, false⟩, 0⟩
abbrev nd8 (op : Int) : Nd := ⟨8, op, 0, no, ⟨0, 0, false, false⟩, ⟨0, 0, false, false⟩, 0⟩
theorem num_any (n : Int) (w : World) : Calls Tryd.prog 10 #[.int .i64 n] w fun e w' => e = .returned (exV (nd1 n) (.slice none 0 0)) ∧ Below w.heap.size w w' := by
  go_enter Tryd.func10, Tryd.ntmps10
  go_wp2_with fail
  refine bodyPost_ret (v := exV (nd1 n) (.slice none 0 0)) (by simp [results, Tryd.results10, go_sem]; try rfl) rfl ?_
  exact ⟨rfl, by go_grown⟩
theorem built2 (n m : Nd) (s r : Value) : Tryd.prog.builtSlice 30 2 [(0, exV n s), (1, exV m r)] = some (exC n s ++ exC m r) := by kernel_rfl
theorem Blk.row2 {w : World} {B : Nat} {n m : Nd} {s r : Value} {t : TypeId} (h : Blk w B (exC n s ++ exC m r) t) : w.rangeAt B 0 (exC n s).toList ∧ w.rangeAt B (0 + 14) (exC m r).toList := by
  refine ⟨fun j v hv => ?_, fun j v hv => ?_⟩
  · have hj : j < 14 := by have := (List.getElem?_eq_some_iff.1 hv).1; rwa [exC_len] at this
    rw [h.at' (0 + j), Nat.zero_add, Array.getElem?_append_left (by rw [exC_size]; exact hj)]
    rw [← hv, Array.getElem?_toList]
  · have hj : j < 14 := by have := (List.getElem?_eq_some_iff.1 hv).1; rwa [exC_len] at this
    rw [h.at' (0 + 14 + j), Array.getElem?_append_right (by rw [exC_size]; omega), exC_size, show 0 + 14 + j - 14 = j by omega]
    rw [← hv, Array.getElem?_toList]
set_option maxHeartbeats 1000000 in
set_option maxRecDepth 100000 in
theorem bin_any (op : Int) (n1 n2 : Nd) (a1 a2 : Option Addr) (l1 l2 p1 p2 : Nat) (t u : Ex) (w : World) (h1 : Tree w (exV n1 (.slice a1 l1 p1)) t) (h2 : Tree w (exV n2 (.slice a2 l2 p2)) u) :
    Calls Tryd.prog 9 #[.int .i64 op, exV n1 (.slice a1 l1 p1), exV n2 (.slice a2 l2 p2)] w fun e w' => ∃ g, e = .returned (exV (nd8 op) (.slice (some ⟨g, 0, none⟩) 2 2)) ∧ Tree w' (exV (nd8 op) (.slice (some ⟨g, 0, none⟩) 2 2)) (.mk (nd8 op) [t, u]) ∧ Below w.heap.size w w' := by
  have X0 := hide (((Blk.new w (exC n1 (.slice a1 l1 p1)) 30).alloc (exO n2 (.slice a2 l2 p2))).alloc z14Ob)
  have X1 := hide ((Blk.new1 w (exO n1 (.slice a1 l1 p1)) (exC n2 (.slice a2 l2 p2)) 30).alloc z14Ob)
  have X2 : ((((w.alloc (exO n1 (.slice a1 l1 p1))).alloc (exO n2 (.slice a2 l2 p2))).alloc z14Ob).alloc (.cells (exC n1 (.slice a1 l1 p1) ++ exC n2 (.slice a2 l2 p2)) 30)).heap[w.heap.size + 1 + 1]? = some (.cells z14b 30 (0, 0)) := (Blk.new2 w (exO n1 (.slice a1 l1 p1)) (exO n2 (.slice a2 l2 p2)) z14b 30).alloc _
  have X3 := hide (Blk.new3 w (exO n1 (.slice a1 l1 p1)) (exO n2 (.slice a2 l2 p2)) z14Ob (exC n1 (.slice a1 l1 p1) ++ exC n2 (.slice a2 l2 p2)) 30)
  have hB := hide (step (step (step (step (Below.refl w.heap.size w) (exO n1 (.slice a1 l1 p1))) (exO n2 (.slice a2 l2 p2))) z14Ob) (.cells (exC n1 (.slice a1 l1 p1) ++ exC n2 (.slice a2 l2 p2)) 30))
  replace h1 := hide h1
  replace h2 := hide h2
  go_enter Tryd.func9, Tryd.ntmps9
  go_wp2_with (first
    | (refine wpList_load_blk rfl 30 _ rfl _ rfl _ (by with_reducible exact X0.out) _ Tryd.underlying30 rfl (exC_info _ _) ?_)
    | (refine wpList_load_blk rfl 30 _ rfl _ rfl _ (by with_reducible exact X1.out) _ Tryd.underlying30 rfl (exC_info _ _) ?_)
    | (refine Go.Great.wpList_buildSliceTo rfl 22 30 2 _ rfl (w.heap.size + 1 + 1 + 1) (by simp) _ rfl Tryd.underlying22 (exC n1 (.slice a1 l1 p1) ++ exC n2 (.slice a2 l2 p2)) (by rw [Array.toList_map]; exact built2 _ _ _ _) ?_)
    | (refine wpList_store_row rfl 30 _ _ rfl _ (exC (nd8 op) (.slice (some ⟨w.heap.size + 1 + 1 + 1, 0, none⟩) 2 2)) rfl rfl 30 _ (by with_reducible exact X2) (exC_info _ _) (by rfl) (exC_one _ _ _ _) ?_))
  refine bodyPost_ret (v := exV (nd8 op) (.slice (some ⟨w.heap.size + 1 + 1 + 1, 0, none⟩) 2 2)) (results_cell_row Tryd.results9 _ _ (w.heap.size + 1 + 1) 30 (exC (nd8 op) (.slice (some ⟨w.heap.size + 1 + 1 + 1, 0, none⟩) 2 2)) (0, 0) _ rfl (Blk.setRow (show Blk _ (w.heap.size + 1 + 1) z14b 30 from X2)) Tryd.underlying30 rfl (exC_info _ _)) rfl ?_
  have hB' : Hid (Below w.heap.size w (((((w.alloc (exO n1 (.slice a1 l1 p1))).alloc (exO n2 (.slice a2 l2 p2))).alloc z14Ob).alloc (.cells (exC n1 (.slice a1 l1 p1) ++ exC n2 (.slice a2 l2 p2)) 30)).setRow (w.heap.size + 1 + 1) (exC (nd8 op) (.slice (some ⟨w.heap.size + 1 + 1 + 1, 0, none⟩) 2 2)))) := hide (below_setRow hB.out (by omega) _)
  have kg : Blk (((((w.alloc (exO n1 (.slice a1 l1 p1))).alloc (exO n2 (.slice a2 l2 p2))).alloc z14Ob).alloc (.cells (exC n1 (.slice a1 l1 p1) ++ exC n2 (.slice a2 l2 p2)) 30)).setRow (w.heap.size + 1 + 1) (exC (nd8 op) (.slice (some ⟨w.heap.size + 1 + 1 + 1, 0, none⟩) 2 2))) (w.heap.size + 1 + 1 + 1) (exC n1 (.slice a1 l1 p1) ++ exC n2 (.slice a2 l2 p2)) 30 := (setRow_other _ _ _ _ (by omega)).trans X3.out
  obtain ⟨r1, r2⟩ := kg.row2
  refine ⟨w.heap.size + 1 + 1 + 1, rfl, ?_, hB'.out⟩
  have T1 := h1.out.step hB'.out
  have T2 := h2.out.step hB'.out
  have hlt := kg.lt
  unfold Tree In
  refine ⟨_, 2, 2, rfl, rfl, by omega, by show (0 : Nat) ≤ 4611686018427387904; omega, .inr ⟨_, 0, rfl, hlt, ?_⟩⟩
  unfold Kids
  refine ⟨⟨_, T1, r1⟩, ?_⟩
  unfold Kids
  refine ⟨⟨_, T2, r2⟩, ?_⟩
  unfold Kids
  trivial
def mulT : Ex := .mk (nd8 2) [.mk (nd8 4) [.mk (nd1 1) [], .mk (nd1 2) []], .mk (nd1 3) []]
def subT : Ex := .mk (nd8 5) [.mk (nd1 1) [], .mk (nd8 5) [.mk (nd1 2) [], .mk (nd1 3) []]]
theorem may_mul : mayR mulT = 0 := by decide +kernel
theorem may_sub : mayR subT = 0 := by decide +kernel
theorem may_neg1 : mayR (.mk (nd1 (-1)) []) = 22 := by decide +kernel
theorem it1 : Lib.itoa 1 = [49] := by rw [show (1 : Int) = ((1 : Nat) : Int) from rfl, itoa_pos, dec_small (by omega)]; rfl
theorem it2 : Lib.itoa 2 = [50] := by rw [show (2 : Int) = ((2 : Nat) : Int) from rfl, itoa_pos, dec_small (by omega)]; rfl
theorem it3 : Lib.itoa 3 = [51] := by rw [show (3 : Int) = ((3 : Nat) : Int) from rfl, itoa_pos, dec_small (by omega)]; rfl
theorem tx_num (n : Int) : txE (.mk (nd1 n) []) = Lib.itoa n := by rw [txE_mk]; rfl
theorem tx_mul : txE mulT = [40, 49, 43, 50, 41, 42, 51] := by
  unfold mulT
  rw [txE_mk]
  simp only [List.map_cons, List.map_nil, tx_num, it3]
  rw [txE_mk]
  simp only [List.map_cons, List.map_nil, tx_num, it1, it2]
  rfl
theorem tx_sub : txE subT = [49, 45, 40, 50, 45, 51, 41] := by
  unfold subT
  rw [txE_mk]
  simp only [List.map_cons, List.map_nil, tx_num, it1]
  rw [txE_mk]
  simp only [List.map_cons, List.map_nil, tx_num, it2, it3]
  rfl
theorem forV_mul : forV mulT = .tuple #[.string ⟨#[61, 40, 49, 43, 50, 41, 42, 51]⟩, .int .i64 0] := by unfold forV; rw [if_pos may_mul, tx_mul]
theorem forV_sub : forV subT = .tuple #[.string ⟨#[61, 49, 45, 40, 50, 45, 51, 41]⟩, .int .i64 0] := by unfold forV; rw [if_pos may_sub, tx_sub]
theorem forV_neg : forV (.mk (nd1 (-1)) []) = .tuple #[.string no, .int .i64 22] := by unfold forV; rw [if_neg (by rw [may_neg1]; decide), may_neg1]
theorem num_mul : NumE mulT := by unfold mulT; simp [NumE, NumL]
theorem num_sub : NumE subT := by unfold subT; simp [NumE, NumL]
set_option maxHeartbeats 2000000 in
set_option maxRecDepth 100000 in
theorem begun11 (w : World) (hl : Lay11 w) : Calls Tryd.prog 4 #[] w fun e w' => e = .returned (.bool true) ∧ Below w.heap.size w w' := by
  have HF := hide (fun t v w' (hb : Below w.heap.size w w') (ht : Tree w' v t) (hN : NumE t) => formula_any t v w' ht (hl.keep hb) hN)
  clear hl
  go_enter Tryd.func4, Tryd.ntmps4
  have B0 := hide (Below.refl w.heap.size w)
  go_wp2_with (first
    | (have hq := B8; go_at_call 10; refine (num_any 3 _).mono ?_; rintro e w9 ⟨rfl, hb⟩; clear hq; have B9 := hide (next B8.out hb);  clear hb)
    | (have hq := B7; go_at_call 10; refine (num_any 2 _).mono ?_; rintro e w8 ⟨rfl, hb⟩; clear hq; have B8 := hide (next B7.out hb);  clear hb)
    | (have hq := B6; go_at_call 10; refine (num_any 1 _).mono ?_; rintro e w7 ⟨rfl, hb⟩; clear hq; have B7 := hide (next B6.out hb);  clear hb)
    | (have hq := B3; go_at_call 10; refine (num_any 3 _).mono ?_; rintro e w4 ⟨rfl, hb⟩; clear hq; have B4 := hide (next B3.out hb); have T4 := hide (T3.out.step hb); clear hb)
    | (have hq := B1; go_at_call 10; refine (num_any 2 _).mono ?_; rintro e w2 ⟨rfl, hb⟩; clear hq; have B2 := hide (next B1.out hb);  clear hb)
    | (have hq := B0; go_at_call 10; refine (num_any 1 _).mono ?_; rintro e w1 ⟨rfl, hb⟩; clear hq; have B1 := hide (next B0.out hb);  clear hb)
    | (have hq := B10; go_at_call 9; refine (bin_any 5 _ _ _ _ _ _ _ _ _ _ _ (leaf_tree _ (nd1 1) (Nat.zero_le _)) T10.out).mono ?_; rintro e w11 ⟨g11, rfl, ht, hb⟩; clear hq; have B11 := hide (next B10.out hb); have T11 := hide ht; clear hb ht)
    | (have hq := B9; go_at_call 9; refine (bin_any 5 _ _ _ _ _ _ _ _ _ _ _ (leaf_tree _ (nd1 2) (Nat.zero_le _)) (leaf_tree _ (nd1 3) (Nat.zero_le _))).mono ?_; rintro e w10 ⟨g10, rfl, ht, hb⟩; clear hq; have B10 := hide (next B9.out hb); have T10 := hide ht; clear hb ht)
    | (have hq := B4; go_at_call 9; refine (bin_any 2 _ _ _ _ _ _ _ _ _ _ _ T4.out (leaf_tree _ (nd1 3) (Nat.zero_le _))).mono ?_; rintro e w5 ⟨g5, rfl, ht, hb⟩; clear hq; have B5 := hide (next B4.out hb); have T5 := hide ht; clear hb ht)
    | (have hq := B2; go_at_call 9; refine (bin_any 4 _ _ _ _ _ _ _ _ _ _ _ (leaf_tree _ (nd1 1) (Nat.zero_le _)) (leaf_tree _ (nd1 2) (Nat.zero_le _))).mono ?_; rintro e w3 ⟨g3, rfl, ht, hb⟩; clear hq; have B3 := hide (next B2.out hb); have T3 := hide ht; clear hb ht)
    | (have hq := B12; go_at_call 6; refine (HF.out (.mk (nd1 (-1)) []) _ _ B12.out (leaf_tree _ (nd1 (-1)) (Nat.zero_le _)) (by simp [NumE, NumL])).mono ?_; rw [forV_neg]; rintro e w13 ⟨rfl, hb⟩; clear hq; have B13 := hide (next B12.out hb); clear hb)
    | (have hq := B11; go_at_call 6; refine (HF.out subT _ _ B11.out T11.out num_sub).mono ?_; rw [forV_sub]; rintro e w12 ⟨rfl, hb⟩; clear hq; have B12 := hide (next B11.out hb); clear hb)
    | (have hq := B5; go_at_call 6; refine (HF.out mulT _ _ B5.out T5.out num_mul).mono ?_; rw [forV_mul]; rintro e w6 ⟨rfl, hb⟩; clear hq; have B6 := hide (next B5.out hb); clear hb))
  go_ret
  exact ⟨rfl, B13.out⟩
end Go.Proofs.YtbpogngnhhkjbaaDoor.T9
