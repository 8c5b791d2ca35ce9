/- plays: Reads, others. -/
import Derived.Test.YtgopolelpckjcaaOpM9
namespace Go.Proofs.Ytgopolelpckjcaa
open Go.RowKit Go.Sort
set_option linter.unusedVariables false

theorem reads_not {w w' : World} {t : Ex} {e : Ending} (h : mayR t ≠ 0) (hp : ReadsP w t e w') : e = .returned (.tuple #[.slice none 0 0, .int .i64 (mayR t)]) ∧ Below w.heap.size w w' := by
  rcases hp with ⟨_, he, hb⟩ | ⟨h0, _⟩
  · exact ⟨he, hb⟩
  · exact absurd h0 h
set_option maxHeartbeats 2000000 in
set_option maxRecDepth 100000 in
theorem plays_readsy (k : Int) (hk : k = 5) (n1 : Nd) (ks : List Ex) (a1 : Option Addr) (l1 c1 : Nat) (n2 : Nd) (ls : List Ex) (a2 : Option Addr) (l2 c2 : Nat) (w : World) (hf : mayR (.mk n1 ks) = 0) (h1 : Tree w (exV n1 (.slice a1 l1 c1)) (.mk n1 ks)) (h2 : Tree w (exV n2 (.slice a2 l2 c2)) (.mk n2 ls)) :
    Calls Try.prog 7 #[.agg (opC k n1 (.slice a1 l1 c1) n2 (.slice a2 l2 c2))] w fun e w' => e = .returned (.bool true) ∧ Below w.heap.size w w' := by
  have B0 := hide (step (Below.refl w.heap.size w) (.cells (opC k n1 (.slice a1 l1 c1) n2 (.slice a2 l2 c2)) 31))
  have P0 := hide (op_at (Blk.new w (opC k n1 (.slice a1 l1 c1) n2 (.slice a2 l2 c2)) 31))
  have q0 := P0.out.k
  have hq := hide hf
  have H1 := hide (fun w' (h : Below w.heap.size w w') => reads_any (.mk n1 ks) _ w' (h1.step h))
  have H2 := hide (fun w' (h : Below w.heap.size w w') => rreads_any (.mk n1 ks) _ w' (h1.step h))
  have hlr : Hid ((readsE (.mk n1 ks)).length ≤ 4611686018427387904) := hide (by have := reads_len (.mk n1 ks); have := (of_decide_eq_true (mayR_zero9 hf)).1; omega)
  have HA := hide (fun a1 a2 len1 len2 cap1 cap2 w' (g1 : AreasAt w' a1 len1 (readsE (.mk n1 ks))) (g2 : AreasAt w' a2 len2 (readsE (.mk n1 ks))) => areas_any _ _ a1 a2 len1 len2 cap1 cap2 w' g1 g2)
  simp only [decide_true] at HA
  subst hk
  clear h1 h2 hf
  go_enter Try.func7, Try.ntmps7
  go_wp2_with (first
    | (refine wpList_load_at rfl 29 _ rfl _ _ rfl _ _ (by with_reducible exact P0.out.t) Try.underlying29 rfl (exC_info _ _) ?_)
    | (go_at_call 11; refine (H1.out _ B0.out).mono ?_; rintro e w3 (⟨hx, _⟩ | ⟨_, a3, l3, c3, rfl, hr, hb⟩); (exact absurd hq.out hx); have A3 := hide (hr.areas hlr.out).1; have b3 := hide (next B0.out hb); have P3 := hide (P0.out.step hb); clear hb)
    | (refine wpList_load_at rfl 29 _ rfl _ _ rfl _ _ (by with_reducible exact P3.out.t) Try.underlying29 rfl (exC_info _ _) ?_)
    | (go_at_call 18; refine (H2.out _ b3.out).mono ?_; rintro e w4 (⟨hx, _⟩ | ⟨_, a4, l4, c4, rfl, hr, hb⟩); (exact absurd hq.out hx); have A4 := hide (hr.areas hlr.out).1; have A5 := hide (A3.out.keep hb); have b4 := hide (next b3.out hb); clear hb)
    | (go_at_call 19; refine (HA.out _ _ _ _ _ _ _ A5.out A4.out).mono ?_; rintro e w5 ⟨rfl, hb⟩; have b5 := hide (next b4.out hb); clear hb))
  go_ret
  exact ⟨by simp, b5.out⟩
set_option maxHeartbeats 2000000 in
set_option maxRecDepth 100000 in
theorem plays_readsn (k : Int) (hk : k = 5) (n1 : Nd) (ks : List Ex) (a1 : Option Addr) (l1 c1 : Nat) (n2 : Nd) (ls : List Ex) (a2 : Option Addr) (l2 c2 : Nat) (w : World) (hf : mayR (.mk n1 ks) ≠ 0) (h1 : Tree w (exV n1 (.slice a1 l1 c1)) (.mk n1 ks)) (h2 : Tree w (exV n2 (.slice a2 l2 c2)) (.mk n2 ls)) :
    Calls Try.prog 7 #[.agg (opC k n1 (.slice a1 l1 c1) n2 (.slice a2 l2 c2))] w fun e w' => e = .returned (.bool true) ∧ Below w.heap.size w w' := by
  have B0 := hide (step (Below.refl w.heap.size w) (.cells (opC k n1 (.slice a1 l1 c1) n2 (.slice a2 l2 c2)) 31))
  have P0 := hide (op_at (Blk.new w (opC k n1 (.slice a1 l1 c1) n2 (.slice a2 l2 c2)) 31))
  have q0 := P0.out.k
  have hq := hide hf
  have hrp := hide (fun (w w' : World) (e : Ending) => reads_not (w := w) (w' := w') (e := e) hf)
  have H1 := hide (fun w' (h : Below w.heap.size w w') => reads_any (.mk n1 ks) _ w' (h1.step h))
  have H2 := hide (fun w' (h : Below w.heap.size w w') => rreads_any (.mk n1 ks) _ w' (h1.step h))
  have HA := hide (fun w' => areas_any [] [] none none 0 0 0 0 w' (nil_areas w') (nil_areas w'))
  simp only [decide_true] at HA
  generalize mayR (.mk n1 ks) = m at *
  subst hk
  clear h1 h2 hf
  go_enter Try.func7, Try.ntmps7
  go_wp2_with (first
    | (refine wpList_load_at rfl 29 _ rfl _ _ rfl _ _ (by with_reducible exact P0.out.t) Try.underlying29 rfl (exC_info _ _) ?_)
    | (go_at_call 11; refine (H1.out _ B0.out).mono ?_; intro e w3 hp; obtain ⟨rfl, hb⟩ := hrp.out _ _ _ hp; clear hp; have b3 := hide (next B0.out hb); have P3 := hide (P0.out.step hb); clear hb)
    | (refine wpList_load_at rfl 29 _ rfl _ _ rfl _ _ (by with_reducible exact P3.out.t) Try.underlying29 rfl (exC_info _ _) ?_)
    | (go_at_call 18; refine (H2.out _ b3.out).mono ?_; intro e w4 hp; obtain ⟨rfl, hb⟩ := hrp.out _ _ _ hp; clear hp; have b4 := hide (next b3.out hb); clear hb)
    | (go_at_call 19; refine (HA.out _).mono ?_; rintro e w5 ⟨rfl, hb⟩; have b5 := hide (next b4.out hb); clear hb))
  go_ret
  exact ⟨by simp, b5.out⟩
set_option maxHeartbeats 2000000 in
set_option maxRecDepth 100000 in
theorem plays_else (k : Int) (hk : ¬ (k = 1) ∧ ¬ (k = 2) ∧ ¬ (k = 3) ∧ ¬ (k = 4) ∧ ¬ (k = 5)) (n1 : Nd) (ks : List Ex) (a1 : Option Addr) (l1 c1 : Nat) (n2 : Nd) (ls : List Ex) (a2 : Option Addr) (l2 c2 : Nat) (w : World) (h1 : Tree w (exV n1 (.slice a1 l1 c1)) (.mk n1 ks)) (h2 : Tree w (exV n2 (.slice a2 l2 c2)) (.mk n2 ls)) :
    Calls Try.prog 7 #[.agg (opC k n1 (.slice a1 l1 c1) n2 (.slice a2 l2 c2))] w fun e w' => e = .returned (.bool true) ∧ Below w.heap.size w w' := by
  have B0 := hide (step (Below.refl w.heap.size w) (.cells (opC k n1 (.slice a1 l1 c1) n2 (.slice a2 l2 c2)) 31))
  have P0 := hide (op_at (Blk.new w (opC k n1 (.slice a1 l1 c1) n2 (.slice a2 l2 c2)) 31))
  have q0 := P0.out.k
  obtain ⟨k1, k2, k3, k4, k5⟩ := hk
  clear h1 h2
  go_enter Try.func7, Try.ntmps7
  go_wp2_with fail
  go_ret
  exact ⟨rfl, B0.out⟩
end Go.Proofs.Ytgopolelpckjcaa
