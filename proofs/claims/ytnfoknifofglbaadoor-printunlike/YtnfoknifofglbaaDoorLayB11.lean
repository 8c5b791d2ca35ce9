/- print.textOf's closure, in brackets. -/
import Derived.Test.YtnfoknifofglbaaDoorLayT11
namespace Go.Proofs.YtnfoknifofglbaaDoor.T9
open Go.RowKit Go.Sort
set_option linter.unusedVariables false

set_option maxHeartbeats 2000000 in
set_option maxRecDepth 100000 in
/-- In brackets. -/
theorem lay_br (w0 : World) (hl : Lay11 w0) (b L : Nat) (t : Ex) (ho : t.nd.kind = 8 → 1 ≤ t.nd.op ∧ t.nd.op ≤ 12) (hc : CoreIs w0 b L t) : LayIs11 w0 b L t := by
  intro v n acc w ht hL hlen
  by_cases hn : n ≤ lv t.nd
  · rw [frE_core hn] at hlen ⊢
    exact hc v n acc w hn ht hL hlen
  obtain ⟨nd, ks⟩ := t
  obtain ⟨a, len, cap, rfl, _, _, _, _⟩ := ht.un
  have e : frE n (.mk nd ks) = [40] ++ txE (.mk nd ks) ++ [41] := by
    unfold frE fr
    rw [if_pos (by show lv nd < n; have : ¬ n ≤ lv nd := hn; omega)]
  rw [e] at hlen ⊢
  simp only [List.length_append, List.length_cons, List.length_nil] at hlen
  have P0 := hide (Blk.new w (exC nd (.slice a len cap)) 26)
  have L0 := hide (hL.alloc (exO nd (.slice a len cap)))
  have HV := hide (levelOf_any nd (.slice a len cap) (w.alloc (exO nd (.slice a len cap))) (hl.keep L0.out.low) ho)
  have HC := hide (fun acc' w' (h : Lng w0 b L acc' w') (hz : acc'.length + (txE (.mk nd ks)).length < 70368744177664) => hc (exV nd (.slice a len cap)) 1 acc' w' (lv_pos nd) ht h hz)
  have hn' : lv nd < n := by have : ¬ n ≤ lv nd := hn; omega
  have K0 := hide (OK11.of_below (b := b) (step (Below.refl w.heap.size w) (exO nd (.slice a len cap))))
  have hb0 : Hid (w.heap.size ≠ b) := hide (by have := hL.lt; omega)
  replace hlen := hide hlen
  generalize lv nd = ℓ at *
  generalize txE (.mk nd ks) = U at *
  clear ht hL e hn ho hc
  have V0 := (L0.out.var).one
  go_enter Tryd.func30, Tryd.ntmps30
  go_wp2_with (first
    | (refine wpList_load_blk rfl 26 _ rfl _ rfl _ (by with_reducible exact P0.out) _ Tryd.underlying26 rfl (exC_info _ _) ?_)
    | (go_at_call 31; refine HV.out.mono ?_; rintro e w1 ⟨rfl, hb⟩; have P1 := hide (P0.out.keep hb); have L1 := hide (L0.out.keep hb); have K1 := hide (K0.out.trans (OK11.of_below hb)); clear hb)
    | (go_at_call 32; refine (wb_41 L3.out (by simp only [List.length_append, List.length_cons, List.length_nil]; have := hlen.out; omega)).mono ?_; rintro e w4 ⟨rfl, h1, h2⟩; have L4 := hide h1; have K4 := hide (K3.out.trans h2); clear h1 h2)
    | (go_at_call 32; refine (wb_40 L1.out (by have := hlen.out; omega)).mono ?_; rintro e w2 ⟨rfl, h1, h2⟩; have L2 := hide h1; have P2 := hide (OK11.blk h2 P1.out hb0.out tX_ne); have K2 := hide (K1.out.trans h2); have V2 := L2.out.var.one; clear h1 h2)
    | (refine wpList_load_blk rfl 26 _ rfl _ rfl _ (by with_reducible exact P2.out) _ Tryd.underlying26 rfl (exC_info _ _) ?_)
    | (go_at_call 30; refine (HC.out _ _ L2.out (by rw [List.length_append]; have := hlen.out; simp only [List.length_cons, List.length_nil]; omega)).mono ?_; rintro e w3 ⟨rfl, h1, h2⟩; have L3 := hide h1; have K3 := hide (K2.out.trans h2); clear h1 h2))
  refine bodyPost_ret (v := .tuple #[]) (by simp [results, Tryd.results30, go_sem]; try rfl) rfl ?_
  exact ⟨rfl, by have := L4.out; simpa using this, K4.out⟩
end Go.Proofs.YtnfoknifofglbaaDoor.T9
