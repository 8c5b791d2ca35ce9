/- print.textOf's closure, of a leaf. -/
import Derived.Test.YtnfoknifofglbaaDoorBld11
import Derived.Test.YtnfoknifofglbaaDoorLeaf11
namespace Go.Proofs.YtnfoknifofglbaaDoor.T9
open Go.RowKit Go.Sort
set_option linter.unusedVariables false

theorem frE_core {n : Int} {t : Ex} (h : n ≤ lv t.nd) : frE n t = txE t := by
  unfold frE fr
  rw [if_neg (by simp only; omega)]
set_option maxHeartbeats 2000000 in
set_option maxRecDepth 100000 in
theorem core_leaf (w0 : World) (hl : Lay11 w0) (b L : Nat) (nd : Nd) (ks : List Ex) (h : toldB nd ks.length = true) (h7 : ¬ nd.kind = 7) (h8 : ¬ nd.kind = 8) (h9 : ¬ nd.kind = 9) (hi : nd.num ≤ 9223372036854775807) (hz : nd.kind = 2 → nd.text.size ≤ 16384) : CoreIs w0 b L (.mk nd ks) := by
  intro v n acc w hn ht hL hlen
  obtain ⟨a, len, cap, rfl, _, _, _, _⟩ := ht.un
  have e : txE (.mk nd ks) = leafL nd := by rw [txE_mk]; unfold nodeT; rw [if_neg h7, if_neg h8, if_neg h9]
  rw [e] at hlen ⊢
  have P0 := hide (Blk.new w (exC nd (.slice a len cap)) 26)
  have L0 := hide (hL.alloc (exO nd (.slice a len cap)))
  have HV := hide (levelOf_any nd (.slice a len cap) (w.alloc (exO nd (.slice a len cap))) (hl.keep L0.out.low) (fun e => absurd e h8))
  have HT := hide (fun w1 (hb : Below w0.heap.size w0 w1) => leaf_any nd ks.length (.slice a len cap) w1 (hl.keep hb) h h7 h8 h9 hi hz)
  have c0 := (at14 nd (.slice a len cap)).c0
  have hn' : ¬ lv nd < n := by have : n ≤ lv nd := hn; omega
  have K0 := hide (OK11.of_below (b := b) (step (Below.refl w.heap.size w) (exO nd (.slice a len cap))))
  replace hlen := hide hlen
  generalize lv nd = ℓ at *
  generalize leafL nd = U at *
  clear ht hL e h hi hz hn
  go_enter Tryd.func30, Tryd.ntmps30
  go_wp2_with (first
    | (refine wpList_load_blk rfl 26 _ rfl _ rfl _ (by with_reducible exact P0.out) _ Tryd.underlying26 rfl (exC_info _ _) ?_)
    | (go_at_call 31; refine HV.out.mono ?_; rintro e w1 ⟨rfl, hb⟩; have P1 := hide (P0.out.keep hb); have L1 := hide (L0.out.keep hb); have K1 := hide (K0.out.trans (OK11.of_below hb)); have d0 := (P1.out.at' 0).trans c0; clear hb)
    | (refine wpList_load_blk rfl 26 _ rfl _ rfl _ (by with_reducible exact P1.out) _ Tryd.underlying26 rfl (exC_info _ _) ?_)
    | (go_at_call 36; refine (HT.out _ L1.out.low).mono ?_; rintro e w2 ⟨rfl, hb⟩; have L2 := hide (L1.out.keep hb); have K2 := hide (K1.out.trans (OK11.of_below hb)); clear hb)
    | (go_at_call 34; refine (ws_any L2.out U hlen.out).mono ?_; rintro e w3 ⟨rfl, h1, h2⟩; have L3 := hide h1; have K3 := hide (K2.out.trans h2); clear h1 h2))
  go_end0
  exact ⟨rfl, L3.out, K3.out⟩
end Go.Proofs.YtnfoknifofglbaaDoor.T9
