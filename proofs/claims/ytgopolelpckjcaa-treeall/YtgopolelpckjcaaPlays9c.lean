/- plays: Size, Copy. -/
import Derived.Test.YtgopolelpckjcaaOpM9
namespace Go.Proofs.Ytgopolelpckjcaa
open Go.RowKit Go.Sort
set_option linter.unusedVariables false

theorem copy_not {w w' : World} {t : Ex} {e : Ending} (h : fitB t = false) (hp : CopyP w t e w') : e = .returned (.tuple #[exV nd0 (.slice none 0 0), .int .i64 2]) ∧ Below w.heap.size w w' := by
  rcases hp with ⟨_, he, hb⟩ | ⟨h0, _⟩
  · exact ⟨he, hb⟩
  · rw [h] at h0; cases h0
set_option maxHeartbeats 2000000 in
set_option maxRecDepth 100000 in
theorem plays_size (k : Int) (hk : k = 2) (n1 : Nd) (ks : List Ex) (a1 : Option Addr) (l1 c1 : Nat) (n2 : Nd) (ls : List Ex) (a2 : Option Addr) (l2 c2 : Nat) (w : World) (h1 : Tree w (exV n1 (.slice a1 l1 c1)) (.mk n1 ks)) (h2 : Tree w (exV n2 (.slice a2 l2 c2)) (.mk n2 ls)) :
    Calls Try.prog 7 #[.agg (opC k n1 (.slice a1 l1 c1) n2 (.slice a2 l2 c2))] w fun e w' => e = .returned (.bool true) ∧ Below w.heap.size w w' := by
  have B0 := hide (step (Below.refl w.heap.size w) (.cells (opC k n1 (.slice a1 l1 c1) n2 (.slice a2 l2 c2)) 31))
  have P0 := hide (op_at (Blk.new w (opC k n1 (.slice a1 l1 c1) n2 (.slice a2 l2 c2)) 31))
  have q0 := P0.out.k
  have H1 := hide (fun w' (h : Below w.heap.size w w') => size_any (.mk n1 ks) _ w' (h1.step h))
  have H2 := hide (fun w' (h : Below w.heap.size w w') => rsize_any (.mk n1 ks) _ w' (h1.step h))
  generalize sizeR (.mk n1 ks) = S at *
  obtain ⟨S1, S2, S3⟩ := S
  subst hk
  clear h1 h2
  go_enter Try.func7, Try.ntmps7
  go_wp2_with (first
    | (refine wpList_load_at rfl 29 _ rfl _ _ rfl _ _ (by with_reducible exact P0.out.t) Try.underlying29 rfl (exC_info _ _) ?_)
    | (go_at_call 15; refine (H1.out _ B0.out).mono ?_; rintro e w1 ⟨rfl, hb⟩; have b1 := hide (next B0.out hb); have P1 := hide (P0.out.step hb); clear hb)
    | (refine wpList_load_at rfl 29 _ rfl _ _ rfl _ _ (by with_reducible exact P1.out.t) Try.underlying29 rfl (exC_info _ _) ?_)
    | (go_at_call 8; refine (H2.out _ b1.out).mono ?_; rintro e w2 ⟨rfl, hb⟩; have b2 := hide (next b1.out hb); clear hb))
  go_ret
  exact ⟨by simp, b2.out⟩
set_option maxHeartbeats 2000000 in
set_option maxRecDepth 100000 in
theorem plays_copyy (k : Int) (hk : k = 4) (n1 : Nd) (ks : List Ex) (a1 : Option Addr) (l1 c1 : Nat) (n2 : Nd) (ls : List Ex) (a2 : Option Addr) (l2 c2 : Nat) (w : World) (hf : fitB (.mk n1 ks) = true) (h1 : Tree w (exV n1 (.slice a1 l1 c1)) (.mk n1 ks)) (h2 : Tree w (exV n2 (.slice a2 l2 c2)) (.mk n2 ls)) :
    Calls Try.prog 7 #[.agg (opC k n1 (.slice a1 l1 c1) n2 (.slice a2 l2 c2))] w fun e w' => e = .returned (.bool true) ∧ Below w.heap.size w w' := by
  have B0 := hide (step (Below.refl w.heap.size w) (.cells (opC k n1 (.slice a1 l1 c1) n2 (.slice a2 l2 c2)) 31))
  have P0 := hide (op_at (Blk.new w (opC k n1 (.slice a1 l1 c1) n2 (.slice a2 l2 c2)) 31))
  have q0 := P0.out.k
  have hq := hide hf
  have hsm := hide h1.sm
  have H1 := hide (fun w' (h : Below w.heap.size w w') => copy_any (.mk n1 ks) _ w' (h1.step h))
  have H2 := hide (fun w' (h : Below w.heap.size w w') => rcopy_any (.mk n1 ks) _ w' (h1.step h))
  have HE := hide (fun v1 v2 w' (t1 : Tree w' v1 (.mk n1 ks)) (t2 : Tree w' v2 (.mk n1 ks)) => eq_any (.mk n1 ks) (.mk n1 ks) v1 v2 w' t1 t2)
  rw [sameE_self9] at HE
  subst hk
  clear h1 h2 hf
  go_enter Try.func7, Try.ntmps7
  go_wp2_with (first
    | (refine wpList_load_at rfl 29 _ rfl _ _ rfl _ _ (by with_reducible exact P0.out.t) Try.underlying29 rfl (exC_info _ _) ?_)
    | (go_at_call 10; refine (H1.out _ B0.out).mono ?_; rintro e w3 (⟨hx, _⟩ | ⟨_, a3, l3, c3, bs3, rfl, hN, hb⟩); (exact absurd hx (by rw [hq.out]; exact Bool.noConfusion)); have hsn3 := run_putnew w3 n1 a3 l3 c3; have b3 := hide (step (next B0.out hb) (exO n1 (.slice a3 l3 c3))); have P3 := hide ((P0.out.step hb).step (step (Below.refl _ _) (exO n1 (.slice a3 l3 c3)))); have X3 := hide (Blk.new w3 (exC n1 (.slice a3 l3 c3)) 29); have T3 := hide ((hN.tree9 hsm.out).alloc (exO n1 (.slice a3 l3 c3))); clear hb; dsimp only [Ex.nd])
    | (refine wpList_load_at rfl 29 _ rfl _ _ rfl _ _ (by with_reducible exact P3.out.t) Try.underlying29 rfl (exC_info _ _) ?_)
    | (go_at_call 22; refine (H2.out _ b3.out).mono ?_; rintro e w4 (⟨hx, _⟩ | ⟨_, a4, l4, c4, bs4, rfl, hN, hb⟩); (exact absurd hx (by rw [hq.out]; exact Bool.noConfusion)); have hsn4 := run_putnew w4 n1 a4 l4 c4; have b4 := hide (step (next b3.out hb) (exO n1 (.slice a4 l4 c4))); have X4 := hide ((X3.out.keep hb).alloc (exO n1 (.slice a4 l4 c4))); have Y4 := hide (Blk.new w4 (exC n1 (.slice a4 l4 c4)) 29); have T4 := hide ((T3.out.step hb).alloc (exO n1 (.slice a4 l4 c4))); have U4 := hide ((hN.tree9 hsm.out).alloc (exO n1 (.slice a4 l4 c4))); clear hb; dsimp only [Ex.nd])
    | (refine wpList_load_blk_g rfl 29 _ rfl _ rfl _ (by with_reducible exact X4.out) _ Try.underlying29 rfl (exC_info _ _) ?_)
    | (refine wpList_load_blk_g rfl 29 _ rfl _ rfl _ (by with_reducible exact Y4.out) _ Try.underlying29 rfl (exC_info _ _) ?_)
    | (go_at_call 12; refine (HE.out _ _ _ T4.out U4.out).mono ?_; rintro e w5 ⟨rfl, hb⟩; have b5 := hide (next b4.out hb); clear hb))
  go_ret
  exact ⟨rfl, b5.out⟩
set_option maxHeartbeats 2000000 in
set_option maxRecDepth 100000 in
theorem plays_copyn (k : Int) (hk : k = 4) (n1 : Nd) (ks : List Ex) (a1 : Option Addr) (l1 c1 : Nat) (n2 : Nd) (ls : List Ex) (a2 : Option Addr) (l2 c2 : Nat) (w : World) (hf : fitB (.mk n1 ks) = false) (h1 : Tree w (exV n1 (.slice a1 l1 c1)) (.mk n1 ks)) (h2 : Tree w (exV n2 (.slice a2 l2 c2)) (.mk n2 ls)) :
    Calls Try.prog 7 #[.agg (opC k n1 (.slice a1 l1 c1) n2 (.slice a2 l2 c2))] w fun e w' => e = .returned (.bool true) ∧ Below w.heap.size w w' := by
  have B0 := hide (step (Below.refl w.heap.size w) (.cells (opC k n1 (.slice a1 l1 c1) n2 (.slice a2 l2 c2)) 31))
  have P0 := hide (op_at (Blk.new w (opC k n1 (.slice a1 l1 c1) n2 (.slice a2 l2 c2)) 31))
  have q0 := P0.out.k
  have hq := hide hf
  have hcp := hide (fun (w w' : World) (e : Ending) => copy_not (w := w) (w' := w') (e := e) hf)
  have hsm := hide h1.sm
  have H1 := hide (fun w' (h : Below w.heap.size w w') => copy_any (.mk n1 ks) _ w' (h1.step h))
  have H2 := hide (fun w' (h : Below w.heap.size w w') => rcopy_any (.mk n1 ks) _ w' (h1.step h))
  have HE := hide (fun v1 v2 w' (t1 : Tree w' v1 (.mk nd0 [])) (t2 : Tree w' v2 (.mk nd0 [])) => eq_any (.mk nd0 []) (.mk nd0 []) v1 v2 w' t1 t2)
  rw [sameE_self9] at HE
  subst hk
  clear h1 h2 hf
  go_enter Try.func7, Try.ntmps7
  go_wp2_with (first
    | (refine wpList_load_at rfl 29 _ rfl _ _ rfl _ _ (by with_reducible exact P0.out.t) Try.underlying29 rfl (exC_info _ _) ?_)
    | (go_at_call 10; refine (H1.out _ B0.out).mono ?_; intro e w3 hp; obtain ⟨rfl, hb⟩ := hcp.out _ _ _ hp; clear hp; have hsn3 := run_putnew w3 nd0 none 0 0; have b3 := hide (step (next B0.out hb) (exO nd0 (.slice none 0 0))); have P3 := hide ((P0.out.step hb).step (step (Below.refl _ _) (exO nd0 (.slice none 0 0)))); have X3 := hide (Blk.new w3 (exC nd0 (.slice none 0 0)) 29); have T3 := hide (zero_leaf (w3.alloc (exO nd0 (.slice none 0 0)))); clear hb; dsimp only [Ex.nd])
    | (refine wpList_load_at rfl 29 _ rfl _ _ rfl _ _ (by with_reducible exact P3.out.t) Try.underlying29 rfl (exC_info _ _) ?_)
    | (go_at_call 22; refine (H2.out _ b3.out).mono ?_; intro e w4 hp; obtain ⟨rfl, hb⟩ := hcp.out _ _ _ hp; clear hp; have hsn4 := run_putnew w4 nd0 none 0 0; have b4 := hide (step (next b3.out hb) (exO nd0 (.slice none 0 0))); have X4 := hide ((X3.out.keep hb).alloc (exO nd0 (.slice none 0 0))); have Y4 := hide (Blk.new w4 (exC nd0 (.slice none 0 0)) 29); have T4 := hide ((T3.out.step hb).alloc (exO nd0 (.slice none 0 0))); have U4 := hide (zero_leaf (w4.alloc (exO nd0 (.slice none 0 0)))); clear hb; dsimp only [Ex.nd])
    | (refine wpList_load_blk_g rfl 29 _ rfl _ rfl _ (by with_reducible exact X4.out) _ Try.underlying29 rfl (exC_info _ _) ?_)
    | (refine wpList_load_blk_g rfl 29 _ rfl _ rfl _ (by with_reducible exact Y4.out) _ Try.underlying29 rfl (exC_info _ _) ?_)
    | (go_at_call 12; refine (HE.out _ _ _ T4.out U4.out).mono ?_; rintro e w5 ⟨rfl, hb⟩; have b5 := hide (next b4.out hb); clear hb))
  go_ret
  exact ⟨rfl, b5.out⟩
end Go.Proofs.Ytgopolelpckjcaa
