/- parse.unary: a node of one kid, its list new. parse.leaf: the tree of a word that is one by itself. Proved of the Go text. -/
import Derived.Test.YtdlomdbmmhjppaaGreatDoorCoJ
import Derived.Test.YtdlomdbmmhjppaaGreatDoorDeJ
import Derived.Test.YtdlomdbmmhjppaaGreatDoorShelf
import Derived.Lib.ParseIntB
namespace Go.Proofs.YtdlomdbmmhjppaaGreatDoor.T9
open Go.RowKit Go.Sort
set_option linter.unusedVariables false

abbrev z14 : Array Value := #[.int .i64 0, .int .i64 0, .int .i64 0, .string { data := #[] }, .int .i64 0, .int .i64 0, .bool false, .bool false, .int .i64 0, .int .i64 0, .bool false, .bool false, .int .i64 0, .slice none 0 0]
abbrev z14O : Obj := .cells z14 30
abbrev ndU (o : Int) : Nd := ⟨7, o, 0, no, ⟨0, 0, false, false⟩, ⟨0, 0, false, false⟩, 0⟩
set_option maxHeartbeats 1000000 in
set_option maxRecDepth 100000 in
theorem unary_any (op : Int) (n : Nd) (a : Option Addr) (l c : Nat) (t : Ex) (bs : List Nat) (w : World) (ho : Ow w (exV n (.slice a l c)) t bs) (hlt : ∀ x ∈ bs, x < w.heap.size) :
    Calls Tryz.prog 132 #[.int .i64 op, exV n (.slice a l c)] w fun e w' => ∃ g, e = .returned (exV (ndU op) (.slice (some ⟨g, 0, none⟩) 1 1)) ∧ Ow w' (exV (ndU op) (.slice (some ⟨g, 0, none⟩) 1 1)) (.mk (ndU op) [t]) (g :: bs) ∧ w.heap.size ≤ g ∧ g < w'.heap.size ∧ Below w.heap.size w w' := by
  have X1 := hide ((Blk.new w (exC n (.slice a l c)) 30).alloc (z14O))
  have X2 : ((((w.alloc (exO n (.slice a l c))).alloc (z14O)).alloc (exO n (.slice a l c)))).heap[w.heap.size + 1]? = some (.cells (z14) 30 (0, 0)) := (Blk.new1 w (exO n (.slice a l c)) (z14) 30).alloc _
  have X3 := hide (Blk.new ((w.alloc (exO n (.slice a l c))).alloc (z14O)) (exC n (.slice a l c)) 30)
  have hz : Hid ((((w.alloc (exO n (.slice a l c))).alloc (z14O)).heap.size = w.heap.size + 2) ∧ ((((w.alloc (exO n (.slice a l c))).alloc (z14O)).alloc (exO n (.slice a l c)))).heap.size = w.heap.size + 3) := hide ⟨by simp, by simp⟩
  replace ho := hide ho
  replace hlt := hide hlt
  go_enter Tryz.func132, Tryz.ntmps132
  go_wp2_with (first
    | (refine wpList_load_blk rfl 30 _ rfl _ rfl _ (by with_reducible exact X1.out) _ Tryz.underlying30 rfl (exC_info _ _) ?_)
    | (refine Go.Great.wpList_buildSliceTo rfl 28 30 1 _ rfl (w.heap.size + 1 + 1) (by simp) _ rfl Tryz.underlying28 (exC n (.slice a l c)) (by rw [Array.toList_map]; exact built1 _ _) ?_)
    | (refine wpList_store_row rfl 30 _ _ rfl _ (exC (ndU op) (.slice (some ⟨w.heap.size + 1 + 1, 0, none⟩) 1 1)) rfl rfl 30 _ (by with_reducible exact X2) (exC_info _ _) (by rfl) (exC_one _ _ _ _) ?_))
  refine bodyPost_ret (v := exV (ndU op) (.slice (some ⟨w.heap.size + 1 + 1, 0, none⟩) 1 1)) (results_cell_row Tryz.results132 _ _ (w.heap.size + 1) 30 (exC (ndU op) (.slice (some ⟨w.heap.size + 1 + 1, 0, none⟩) 1 1)) (0, 0) _ rfl (Blk.setRow (show Blk _ (w.heap.size + 1) z14 30 from X2)) Tryz.underlying30 rfl (exC_info _ _)) rfl ?_
  have k0 : ∀ x, x < w.heap.size → ((((w.alloc (exO n (.slice a l c))).alloc z14O).alloc (exO n (.slice a l c))).setRow (w.heap.size + 1) (exC (ndU op) (.slice (some ⟨w.heap.size + 1 + 1, 0, none⟩) 1 1))).heap[x]? = w.heap[x]? := fun x hx =>
    (setRow_other _ _ _ _ (by omega)).trans ((step (step (step (Below.refl w.heap.size w) (exO n (.slice a l c))) z14O) (exO n (.slice a l c))).block x hx)
  have kg : ((((w.alloc (exO n (.slice a l c))).alloc z14O).alloc (exO n (.slice a l c))).setRow (w.heap.size + 1) (exC (ndU op) (.slice (some ⟨w.heap.size + 1 + 1, 0, none⟩) 1 1))).heap[w.heap.size + 1 + 1]? = some (.cells (exC n (.slice a l c)) 30 (0, 0)) := by
    refine (setRow_other _ _ _ _ (by omega)).trans ?_
    have := X3.out
    unfold Blk at this
    rw [hz.out.1] at this
    exact this
  refine ⟨w.heap.size + 1 + 1, rfl, ?_, by omega, by rw [size_setRow, hz.out.2]; omega, below_setRow (step (step (step (Below.refl _ w) _) _) _) (by omega) _⟩
  unfold Ow
  refine ⟨_, _, _, rfl, rfl, .inr ⟨w.heap.size + 1 + 1, exC n (.slice a l c), bs, rfl, rfl, kg, rfl, ⟨Nat.le_refl _, by decide⟩, ?_⟩⟩
  unfold OwL
  refine ⟨exC n (.slice a l c), bs, [], by simp, ho.out.move _ (fun x hx => k0 x (hlt.out x hx)), World.rangeAt_of_block kg 0 14, ?_⟩
  unfold OwL
  rfl
end Go.Proofs.YtdlomdbmmhjppaaGreatDoor.T9
namespace Go.Proofs.YtdlomdbmmhjppaaGreatDoor.T9
open Go.RowKit Go.Sort
set_option linter.unusedVariables false

abbrev wdO9 (k : Int) (t : ByteArray) (a : Int) : Obj := .cells #[.int .i64 k, .string t, .int .i64 a] 44
theorem pi_below {w w' : World} {k : TypeId} (h : w' = w ∨ ∃ t : ByteArray, w' = Lib.bytesWorld w k t) : Below w.heap.size w w' := by
  rcases h with rfl | ⟨t, rfl⟩
  · exact Below.refl _ _
  · exact ⟨rfl, rfl, rfl, by rw [Lib.bytesWorld_size]; omega, fun k hk => Lib.bytesWorld_at_old w _ t k hk⟩
theorem below_row {B : Nat} {a w : World} (h : Below B a w) {g : Nat} (hg : B ≤ g) (cs : Array Value) : Below B a (w.setRow g cs) :=
  ⟨h.os, h.tape, h.output, by rw [size_setRow]; exact h.size, fun k hk => (setRow_other _ _ _ _ (by omega)).trans (h.block k hk)⟩
set_option maxHeartbeats 1000000 in
set_option maxRecDepth 100000 in
theorem leaf_text (k a : Int) (t : ByteArray) (k1 : (k == 1) = false) (k5 : (k == 5) = false) (k6 : (k == 6) = false) (w : World) : Calls Tryz.prog 189 #[.agg #[.int .i64 k, .string t, .int .i64 a]] w fun e w' => e = .returned (exV (leafX 2 0 t).nd (.slice none 0 0)) ∧ Below w.heap.size w w' := by
  obtain ⟨w1, hw1⟩ : ∃ w1, (w.alloc (wdO9 k t a)).alloc z14O = w1 := ⟨_, rfl⟩
  have X0 : Blk w1 (w.heap.size + 1) z14 30 := hw1 ▸ Blk.new1 w (wdO9 k t a) z14 30
  have X := hide (show w1.heap[w.heap.size + 1]? = some (.cells z14 30 (0, 0)) from X0)
  clear X0
  have B := hide (show Below w.heap.size w w1 from hw1 ▸ step (step (Below.refl _ w) _) _)
  have Wb := show Blk w1 w.heap.size #[.int .i64 k, .string t, .int .i64 a] 44 from hw1 ▸ (Blk.new w _ _).alloc z14O
  have c0 : w1.cell? ⟨w.heap.size, 0, none⟩ = some (.int .i64 k) := Wb.at' 0
  have c1 : w1.cell? ⟨w.heap.size, 1, none⟩ = some (.string t) := Wb.at' 1
  clear Wb
  go_enter Tryz.func189, Tryz.ntmps189
  go_wp2_with (first
    | (refine wpList_store_row rfl 30 _ _ rfl _ (exC (leafX 2 0 t).nd (.slice none 0 0)) rfl rfl 30 _ (by with_reducible exact X.out) (exC_info _ _) (by rfl) (exC_one _ _ _ _) ?_))
  refine bodyPost_ret (v := exV (leafX 2 0 t).nd (.slice none 0 0)) (results_cell_row Tryz.results189 _ _ (w.heap.size + 1) 30 (exC (leafX 2 0 t).nd (.slice none 0 0)) (0, 0) _ rfl (setRow_heap _ _ _ _ _ _ X.out) Tryz.underlying30 rfl (exC_info _ _)) rfl ?_
  exact ⟨rfl, below_row B.out (by omega) _⟩
set_option maxHeartbeats 1000000 in
set_option maxRecDepth 100000 in
theorem leaf_true (a : Int) (t : ByteArray) (ht : (t.toList == [84, 82, 85, 69]) = true) (w : World) : Calls Tryz.prog 189 #[.agg #[.int .i64 5, .string t, .int .i64 a]] w fun e w' => e = .returned (exV (leafX 3 1 no10).nd (.slice none 0 0)) ∧ Below w.heap.size w w' := by
  obtain ⟨w1, hw1⟩ : ∃ w1, (w.alloc (wdO9 5 t a)).alloc z14O = w1 := ⟨_, rfl⟩
  have X0 : Blk w1 (w.heap.size + 1) z14 30 := hw1 ▸ Blk.new1 w (wdO9 5 t a) z14 30
  have X := hide (show w1.heap[w.heap.size + 1]? = some (.cells z14 30 (0, 0)) from X0)
  clear X0
  have B := hide (show Below w.heap.size w w1 from hw1 ▸ step (step (Below.refl _ w) _) _)
  have Wb := show Blk w1 w.heap.size #[.int .i64 5, .string t, .int .i64 a] 44 from hw1 ▸ (Blk.new w _ _).alloc z14O
  have c0 : w1.cell? ⟨w.heap.size, 0, none⟩ = some (.int .i64 5) := Wb.at' 0
  have c1 : w1.cell? ⟨w.heap.size, 1, none⟩ = some (.string t) := Wb.at' 1
  clear Wb
  go_enter Tryz.func189, Tryz.ntmps189
  go_wp2_with (first
    | (refine wpList_store_row rfl 30 _ _ rfl _ (exC (leafX 3 1 no10).nd (.slice none 0 0)) rfl rfl 30 _ (by with_reducible exact X.out) (exC_info _ _) (by rfl) (exC_one _ _ _ _) ?_))
  refine bodyPost_ret (v := exV (leafX 3 1 no10).nd (.slice none 0 0)) (results_cell_row Tryz.results189 _ _ (w.heap.size + 1) 30 (exC (leafX 3 1 no10).nd (.slice none 0 0)) (0, 0) _ rfl (setRow_heap _ _ _ _ _ _ X.out) Tryz.underlying30 rfl (exC_info _ _)) rfl ?_
  exact ⟨rfl, below_row B.out (by omega) _⟩
set_option maxHeartbeats 1000000 in
set_option maxRecDepth 100000 in
theorem leaf_other (a : Int) (t : ByteArray) (ht : (t.toList == [84, 82, 85, 69]) = false) (w : World) : Calls Tryz.prog 189 #[.agg #[.int .i64 5, .string t, .int .i64 a]] w fun e w' => e = .returned (exV (leafX 3 0 no10).nd (.slice none 0 0)) ∧ Below w.heap.size w w' := by
  obtain ⟨w1, hw1⟩ : ∃ w1, (w.alloc (wdO9 5 t a)).alloc z14O = w1 := ⟨_, rfl⟩
  have X0 : Blk w1 (w.heap.size + 1) z14 30 := hw1 ▸ Blk.new1 w (wdO9 5 t a) z14 30
  have X := hide (show w1.heap[w.heap.size + 1]? = some (.cells z14 30 (0, 0)) from X0)
  clear X0
  have B := hide (show Below w.heap.size w w1 from hw1 ▸ step (step (Below.refl _ w) _) _)
  have Wb := show Blk w1 w.heap.size #[.int .i64 5, .string t, .int .i64 a] 44 from hw1 ▸ (Blk.new w _ _).alloc z14O
  have c0 : w1.cell? ⟨w.heap.size, 0, none⟩ = some (.int .i64 5) := Wb.at' 0
  have c1 : w1.cell? ⟨w.heap.size, 1, none⟩ = some (.string t) := Wb.at' 1
  clear Wb
  go_enter Tryz.func189, Tryz.ntmps189
  go_wp2_with (first
    | (refine wpList_store_row rfl 30 _ _ rfl _ (exC (leafX 3 0 no10).nd (.slice none 0 0)) rfl rfl 30 _ (by with_reducible exact X.out) (exC_info _ _) (by rfl) (exC_one _ _ _ _) ?_))
  refine bodyPost_ret (v := exV (leafX 3 0 no10).nd (.slice none 0 0)) (results_cell_row Tryz.results189 _ _ (w.heap.size + 1) 30 (exC (leafX 3 0 no10).nd (.slice none 0 0)) (0, 0) _ rfl (setRow_heap _ _ _ _ _ _ X.out) Tryz.underlying30 rfl (exC_info _ _)) rfl ?_
  exact ⟨rfl, below_row B.out (by omega) _⟩
set_option maxHeartbeats 1000000 in
set_option maxRecDepth 100000 in
theorem leaf_mis (a : Int) (t : ByteArray) (n : Int) (HM : ∀ w, Calls Tryz.prog 215 #[.string t] w fun e w' => e = .returned (.int .i64 n) ∧ w' = w) (w : World) : Calls Tryz.prog 189 #[.agg #[.int .i64 6, .string t, .int .i64 a]] w fun e w' => e = .returned (exV (leafX 4 n no10).nd (.slice none 0 0)) ∧ Below w.heap.size w w' := by
  obtain ⟨w1, hw1⟩ : ∃ w1, (w.alloc (wdO9 6 t a)).alloc z14O = w1 := ⟨_, rfl⟩
  have X0 : Blk w1 (w.heap.size + 1) z14 30 := hw1 ▸ Blk.new1 w (wdO9 6 t a) z14 30
  have X := hide (show w1.heap[w.heap.size + 1]? = some (.cells z14 30 (0, 0)) from X0)
  clear X0
  have B := hide (show Below w.heap.size w w1 from hw1 ▸ step (step (Below.refl _ w) _) _)
  have Wb := show Blk w1 w.heap.size #[.int .i64 6, .string t, .int .i64 a] 44 from hw1 ▸ (Blk.new w _ _).alloc z14O
  have c0 : w1.cell? ⟨w.heap.size, 0, none⟩ = some (.int .i64 6) := Wb.at' 0
  have c1 : w1.cell? ⟨w.heap.size, 1, none⟩ = some (.string t) := Wb.at' 1
  clear Wb
  have HMh := hide HM
  clear HM
  go_enter Tryz.func189, Tryz.ntmps189
  go_wp2_with (first
    | (go_at_call 215; refine (HMh.out _).mono ?_; rintro e w2 ⟨rfl, rfl⟩)
    | (refine wpList_store_row rfl 30 _ _ rfl _ (exC (leafX 4 n no10).nd (.slice none 0 0)) rfl rfl 30 _ (by with_reducible exact X.out) (exC_info _ _) (by rfl) (exC_one _ _ _ _) ?_))
  refine bodyPost_ret (v := exV (leafX 4 n no10).nd (.slice none 0 0)) (results_cell_row Tryz.results189 _ _ (w.heap.size + 1) 30 (exC (leafX 4 n no10).nd (.slice none 0 0)) (0, 0) _ rfl (setRow_heap _ _ _ _ _ _ X.out) Tryz.underlying30 rfl (exC_info _ _)) rfl ?_
  exact ⟨rfl, below_row B.out (by omega) _⟩
set_option maxHeartbeats 1000000 in
set_option maxRecDepth 100000 in
theorem leaf_num (a : Int) (t : ByteArray) (hs : t.size ≤ 1000000) (n : Int) (HN : Lib.parseIntB 64 t.data.toList = .ok n) (w : World) : Calls Tryz.prog 189 #[.agg #[.int .i64 1, .string t, .int .i64 a]] w fun e w' => e = .returned (exV (leafX 1 n no10).nd (.slice none 0 0)) ∧ Below w.heap.size w w' := by
  obtain ⟨w1, hw1⟩ : ∃ w1, (w.alloc (wdO9 1 t a)).alloc z14O = w1 := ⟨_, rfl⟩
  have X0 : Blk w1 (w.heap.size + 1) z14 30 := hw1 ▸ Blk.new1 w (wdO9 1 t a) z14 30
  have X := hide (show w1.heap[w.heap.size + 1]? = some (.cells z14 30 (0, 0)) from X0)
  clear X0
  have B := hide (show Below w.heap.size w w1 from hw1 ▸ step (step (Below.refl _ w) _) _)
  have Wb := show Blk w1 w.heap.size #[.int .i64 1, .string t, .int .i64 a] 44 from hw1 ▸ (Blk.new w _ _).alloc z14O
  have c0 : w1.cell? ⟨w.heap.size, 0, none⟩ = some (.int .i64 1) := Wb.at' 0
  have c1 : w1.cell? ⟨w.heap.size, 1, none⟩ = some (.string t) := Wb.at' 1
  clear Wb
  have HP := hide (fun w => Tryz.strconv_ParseInt_10_at64_ok t (by omega) n HN w)
  go_enter Tryz.func189, Tryz.ntmps189
  go_wp2_with (first
    | (go_at_call 214; refine (HP.out w1).mono ?_; rintro e w2 ⟨rfl, hw2⟩; replace hw2 := pi_below hw2; replace X := hide (show w2.heap[w.heap.size + 1]? = some (.cells z14 30 (0, 0)) from (hw2.block _ (Array.getElem?_eq_some_iff.1 X.out).1).trans X.out); replace B := hide (next B.out hw2); clear hw2)
    | (refine wpList_store_row rfl 30 _ _ rfl _ (exC (leafX 1 n no10).nd (.slice none 0 0)) rfl rfl 30 _ (by with_reducible exact X.out) (exC_info _ _) (by rfl) (exC_one _ _ _ _) ?_))
  refine bodyPost_ret (v := exV (leafX 1 n no10).nd (.slice none 0 0)) (results_cell_row Tryz.results189 _ _ (w.heap.size + 1) 30 (exC (leafX 1 n no10).nd (.slice none 0 0)) (0, 0) _ rfl (setRow_heap _ _ _ _ _ _ X.out) Tryz.underlying30 rfl (exC_info _ _)) rfl ?_
  exact ⟨rfl, below_row B.out (by omega) _⟩
end Go.Proofs.YtdlomdbmmhjppaaGreatDoor.T9
