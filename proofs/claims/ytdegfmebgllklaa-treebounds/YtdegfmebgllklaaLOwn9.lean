/- The law's Own. -/
import Derived.Test.YtdegfmebgllklaaROwnW9
namespace Go.Proofs.Ytdegfmebgllklaa
open Go.RowKit Go.Sort
set_option linter.unusedVariables false

set_option maxHeartbeats 1000000 in
set_option maxRecDepth 100000 in
theorem lown_any (nd : Nd) (ks : List Ex) (v : Value) (w : World) (ht : Tree w v (.mk nd ks)) (hn : nodesE (.mk nd ks) ≤ 512) : Calls Try.prog 23 #[v] w fun e w' => OwnP w (.mk nd ks) e w' := by
  obtain ⟨a, len, cap, rfl, _, _, _, _⟩ := ht.un
  have P0 := hide ((Blk.new w (exC nd (.slice a len cap)) 29).alloc (exO nd0 (.slice none 0 0)))
  have P1 := hide (Blk.new1 w (exO nd (.slice a len cap)) (exC nd0 (.slice none 0 0)) 29)
  have B0 := hide (step (step (Below.refl w.heap.size w) (exO nd (.slice a len cap))) (exO nd0 (.slice none 0 0)))
  have H := hide (rown_any (.mk nd ks) (exV nd (.slice a len cap)) _ (ht.step B0.out) hn)
  clear ht hn
  go_enter Try.func23, Try.ntmps23
  try simp only [List.append]
  go_wp2_with (first
    | (refine wpList_load_blk rfl 29 _ rfl _ rfl _ P0.out _ Try.underlying29 rfl (exC_info _ _) ?_)
    | (go_at_call 42; refine H.out.mono ?_; rintro e w1 ⟨a1, l1, c1, bs, rfl, hN, hb, hR⟩; replace hR := hide hR; have Q1 := hide (P1.out.keep hb); have b1 := hide (next B0.out hb); replace hN := hide hN; clear hb)
    | (refine wpList_store_row rfl 29 _ _ rfl _ (exC nd (.slice a1 l1 c1)) rfl rfl 29 _ Q1.out (exC_info _ _) (by rfl) (exC_one _ _ _ _) ?_))
  refine bodyPost_ret (v := exV nd (.slice a1 l1 c1)) (results_cell_row Try.results23 _ _ (w.heap.size + 1) 29 (exC nd (.slice a1 l1 c1)) (0, 0) _ rfl (setRow_heap _ _ _ _ _ _ Q1.out) Try.underlying29 rfl (exC_info _ _)) rfl ?_
  have hs : ((w.alloc (exO nd (.slice a len cap))).alloc (exO nd0 (.slice none 0 0))).heap.size = w.heap.size + 1 + 1 := by simp
  have hat : ∀ k ∈ bs, w.heap.size + 1 + 1 ≤ k ∧ k < w1.heap.size := fun k hk => by rw [← hs]; exact hN.out.at' k hk
  refine ⟨_, _, _, bs, rfl, ⟨hN.out.ow.move _ (fun k hk => setRow_other _ _ _ _ (by have := hat k hk; omega)), hN.out.nd, fun k hk => ?_⟩, below_setRow b1.out (by omega) _, (hR.out.base (by rw [hs]; omega)).keep (fun k hk => setRow_other _ _ _ _ (by have := hat k hk; omega))⟩
  rw [size_setRow]; have := hat k hk; exact ⟨by omega, this.2⟩
end Go.Proofs.Ytdegfmebgllklaa
