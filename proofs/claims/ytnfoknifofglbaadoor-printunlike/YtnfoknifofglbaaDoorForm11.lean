/- print.textOf and print.Formula: what they answer of every tree. -/
import Derived.Test.YtnfoknifofglbaaDoorLayB11
import Derived.Test.YtnfoknifofglbaaDoorLayU11
import Derived.Test.YtnfoknifofglbaaDoorLayD11
import Derived.Test.YtnfoknifofglbaaDoorLayC11
import Derived.Test.YtnfoknifofglbaaDoorKidM11
namespace Go.Proofs.YtnfoknifofglbaaDoor.T9
open Go.RowKit Go.Sort
set_option linter.unusedVariables false

theorem ok7 {nd : Nd} {len : Nat} (h : toldB nd len = true) (hk : nd.kind = 7) : len = 1 := by
  unfold toldB okOf at h; simp only [hk] at h; simp at h; exact h.1.1.2.2
theorem ok8 {nd : Nd} {len : Nat} (h : toldB nd len = true) (hk : nd.kind = 8) : (1 ≤ nd.op ∧ nd.op ≤ 12) ∧ len = 2 := by
  unfold toldB okOf at h; simp only [hk] at h; simp at h; exact ⟨⟨h.1.1.1, h.1.1.2.1⟩, h.1.1.2.2⟩
theorem ok9 {nd : Nd} {len : Nat} (h : toldB nd len = true) (hk : nd.kind = 9) : 1 ≤ nd.fn ∧ nd.fn ≤ 76 := by
  unfold toldB okOf at h; simp only [hk] at h; simp at h
  have := h.1.1
  unfold takesB at this
  split at this
  · rename_i q; exact q
  · cases this
/-- The closure lays every tree that may be. -/
theorem lay_all (w0 : World) (hl : Lay11 w0) (b L : Nat) : ∀ t : Ex, allE t = true → NumE t → bytesE t ≤ 16384 → LayIs11 w0 b L t := by
  refine Ex.ind fun nd ks ih => ?_
  intro ha hN hb
  rw [allE, Bool.and_eq_true] at ha
  rw [NumE] at hN
  rw [bytesE] at hb
  have ih' : ∀ k ∈ ks, LayIs11 w0 b L k := fun k hk => ih k hk (all_kid ha.2 hk) (num_kid hN.2 hk) (by have := bytes_mem hk; omega)
  refine lay_br w0 hl b L _ (fun h8 => (ok8 ha.1 h8).1) ?_
  by_cases h7 : nd.kind = 7
  · obtain ⟨k, rfl⟩ := List.length_eq_one_iff.1 (ok7 ha.1 h7)
    exact core_un w0 hl b L nd k h7 (ih' k (by simp))
  by_cases h8 : nd.kind = 8
  · obtain ⟨k, j, rfl⟩ := len_two (ok8 ha.1 h8).2
    exact core_bin w0 hl b L nd k j h8 (ok8 ha.1 h8).1 (ih' k (by simp)) (ih' j (by simp))
  by_cases h9 : nd.kind = 9
  · exact core_call w0 hl b L nd ks h9 (ok9 ha.1 h9) ih'
  exact core_leaf w0 hl b L nd ks ha.1 h7 h8 h9 hN.1 (fun h2 => by rw [if_pos h2] at hb; omega)
theorem bld_new (w : World) (ob : Obj) : Lib.IsBuilderF tB tU w.heap.size (w.heap.size + 1) (Lib.byteCells []) ((w.alloc ob).alloc (.cells #[.pointer none, .slice none 0 0] tB)) := by
  refine .inl ⟨by omega, .slice none 0 0, ?_, World.ownsRowF_nil _ _ _ _, by simp [Value.ownBlock]⟩
  have := heap_alloc_new (w.alloc ob) (.cells #[.pointer none, .slice none 0 0] tB)
  simpa only [World.size_alloc] using this
set_option maxHeartbeats 2000000 in
set_option maxRecDepth 100000 in
theorem textOf_any (t : Ex) (v : Value) (w : World) (ht : Tree w v t) (hl : Lay11 w) (hm : mayR t = 0) (hN : NumE t) : Calls Tryd.prog 17 #[v] w fun e w' => e = .returned (.string (ba (txE t))) ∧ Below w.heap.size w w' := by
  have hs := txE_short hm hN
  obtain ⟨hf, ha⟩ := may_all hm
  have hf := of_decide_eq_true hf
  have HI := hide (fun (L : Nat) (w' : World) (h : Lng w (w.heap.size + 1) L [] w') => lay_all w hl (w.heap.size + 1) L t ha hN hf.2.2 v 1 [] w' ht h (by rw [frE_core (lv_pos _)]; simp; omega))
  rw [frE_core (lv_pos _), List.nil_append] at HI
  obtain ⟨nd, ks⟩ := t
  obtain ⟨a, len, cap, rfl, _, _, _, _⟩ := ht.un
  generalize txE (.mk nd ks) = U at *
  have L0 : Hid (Lng w (w.heap.size + 1) (w.heap.size + 1 + 1) [] (((w.alloc (exO nd (.slice a len cap))).alloc (.cells #[.pointer none, .slice none 0 0] tB)).alloc (.cells #[layV (w.heap.size + 1) (w.heap.size + 1 + 1)] tL))) := hide
    ⟨step (step (step (Below.refl _ w) _) _) _, (bld_new w _).alloc _, Blk.new2 w _ _ _ _, by omega⟩
  have P0 := hide (((Blk.new w (exC nd (.slice a len cap)) 26).alloc (.cells #[.pointer none, .slice none 0 0] tB)).alloc (.cells #[layV (w.heap.size + 1) (w.heap.size + 1 + 1)] tL))
  have V0 := L0.out.var.one
  clear ht hl hm hN hs ha hf
  go_enter Tryd.func17, Tryd.ntmps17
  go_wp2_with (first
    | (go_at_call 37; refine (Tryd.Builder_String_any_k w.heap.size (w.heap.size + 1) U w1 L1.out.bld L1.out.low.size).mono ?_; rintro e w2 ⟨rfl, _, h2, _⟩; have B2 := hide (L1.out.low.trans h2); clear h2)
    | (refine wpList_load_blk rfl 26 _ rfl _ rfl _ (by with_reducible exact P0.out) _ Tryd.underlying26 rfl (exC_info _ _) ?_)
    | (go_at_call 30; refine (HI.out _ _ L0.out).mono ?_; rintro e w1 ⟨rfl, h1, h2⟩; have L1 := hide h1; clear h1 h2))
  go_ret
  exact ⟨rfl, B2.out⟩
/-- What Formula answers. -/
def forV (t : Ex) : Value := if mayR t = 0 then .tuple #[.string (ba (61 :: txE t)), .int .i64 0] else .tuple #[.string no, .int .i64 (mayR t)]
set_option maxHeartbeats 2000000 in
set_option maxRecDepth 100000 in
theorem formula_any (t : Ex) (v : Value) (w : World) (ht : Tree w v t) (hl : Lay11 w) (hN : NumE t) : Calls Tryd.prog 8 #[v] w fun e w' => e = .returned (forV t) ∧ Below w.heap.size w w' := by
  have HM := hide (fun w' (h : Below w.heap.size w w') => may_any t v w' (ht.step h))
  have HT := hide (fun w' (h : Below w.heap.size w w') (hm : mayR t = 0) => textOf_any t v w' (ht.step h) (hl.keep h) hm hN)
  have hs := hide (fun (hm : mayR t = 0) => txE_short hm hN)
  obtain ⟨nd, ks⟩ := t
  obtain ⟨a, len, cap, rfl, _, _, _, _⟩ := ht.un
  have P0 := hide (Blk.new w (exC nd (.slice a len cap)) 26)
  have B0 := hide (step (Below.refl w.heap.size w) (exO nd (.slice a len cap)))
  by_cases hm : mayR (.mk nd ks) = 0
  · have e : forV (.mk nd ks) = .tuple #[.string (ba (61 :: txE (.mk nd ks))), .int .i64 0] := by unfold forV; rw [if_pos hm]
    rw [e]
    have s1 := fun w => addl_run (a := [61]) (b := txE (.mk nd ks)) (by have := hs.out hm; simp; omega) w
    have HT' := hide (fun w' (h : Below w.heap.size w w') => HT.out w' h hm)
    rw [hm] at HM
    generalize txE (.mk nd ks) = U at *
    clear ht hl hN e HT hs
    go_enter Tryd.func8, Tryd.ntmps8
    go_wp2_with (first
      | (refine wpList_load_blk rfl 26 _ rfl _ rfl _ (by with_reducible exact P0.out) _ Tryd.underlying26 rfl (exC_info _ _) ?_)
      | (refine wpList_load_blk rfl 26 _ rfl _ rfl _ (by with_reducible exact P1.out) _ Tryd.underlying26 rfl (exC_info _ _) ?_)
      | (go_at_call 12; refine (HM.out _ B0.out).mono ?_; rintro e w1 ⟨rfl, hb⟩; have B1 := hide (next B0.out hb); have P1 := hide (P0.out.keep hb); clear hb)
      | (go_at_call 17; refine (HT'.out _ B1.out).mono ?_; rintro e w2 ⟨rfl, hb⟩; have B2 := hide (next B1.out hb); clear hb))
    go_ret2
    exact ⟨rfl, B2.out⟩
  · have e : forV (.mk nd ks) = .tuple #[.string no, .int .i64 (mayR (.mk nd ks))] := by unfold forV; rw [if_neg hm]
    rw [e]
    have hm' : (mayR (.mk nd ks) == 0) = false := by simpa using hm
    have hm2 : (mayR (.mk nd ks) != 0) = true := by simpa using hm
    generalize mayR (.mk nd ks) = M at *
    clear ht hl hN e HT hs
    go_enter Tryd.func8, Tryd.ntmps8
    go_wp2_with (first
      | (refine wpList_load_blk rfl 26 _ rfl _ rfl _ (by with_reducible exact P0.out) _ Tryd.underlying26 rfl (exC_info _ _) ?_)
      | (go_at_call 12; refine (HM.out _ B0.out).mono ?_; rintro e w1 ⟨rfl, hb⟩; have B1 := hide (next B0.out hb); clear hb))
    go_ret2
    exact ⟨rfl, B1.out⟩
end Go.Proofs.YtnfoknifofglbaaDoor.T9
