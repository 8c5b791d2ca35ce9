/- TreeTurned: the early ends; the law's Own. -/
import Derived.Test.YtdegfmebgllklaaTurnM9
import Derived.Test.YtdegfmebgllklaaBegun9
namespace Go.Proofs.Ytdegfmebgllklaa
open Go.RowKit Go.Sort
set_option linter.unusedVariables false

set_option maxHeartbeats 1000000 in
set_option maxRecDepth 100000 in
theorem turned_no (nd : Nd) (ks : List Ex) (v : Value) (q n : Int) (w : World) (ht : Tree w v (.mk nd ks)) (hf : mayR (.mk nd ks) ≠ 0) :
    Calls Try.prog 7 #[v, .int .u8 q, .int .i64 n] w fun e w' => e = .returned (.bool true) ∧ Below w.heap.size w w' := by
  obtain ⟨a, len, cap, rfl, hln, _, _, _⟩ := ht.un
  have P0 := hide (Blk.new w (exC nd (.slice a len cap)) 29)
  have B0 := hide (step (Below.refl w.heap.size w) (exO nd (.slice a len cap)))
  have HG := hide (begun9 (w.alloc (exO nd (.slice a len cap))))
  have H2 := hide (fun w' (h : Below w.heap.size w w') => may_any (.mk nd ks) (exV nd (.slice a len cap)) w' (ht.step h))
  generalize mayR (.mk nd ks) = m at *
  clear ht hln
  go_enter Try.func7, Try.ntmps7
  try simp only [List.append]
  go_wp2_with (first
    | (go_at_call 9; refine HG.out.mono ?_; rintro e w0 ⟨rfl, hb⟩; have Q0 := hide (P0.out.keep hb); have b0 := hide (next B0.out hb); clear hb)
    | (refine wpList_load_blk rfl 29 _ rfl _ rfl _ (by with_reducible exact Q0.out) _ Try.underlying29 rfl (exC_info _ _) ?_)
    | (go_at_call 17; refine (H2.out _ b0.out).mono ?_; rintro e w1 ⟨rfl, hb⟩; have b1 := hide (next b0.out hb); clear hb))
  all_goals go_ret
  all_goals exact ⟨rfl, b1.out⟩
set_option maxHeartbeats 1000000 in
set_option maxRecDepth 100000 in
theorem turned_zero (nd : Nd) (ks : List Ex) (v : Value) (q : Int) (w : World) (ht : Tree w v (.mk nd ks)) (hf : mayR (.mk nd ks) = 0) :
    Calls Try.prog 7 #[v, .int .u8 q, .int .i64 0] w fun e w' => e = .returned (.bool true) ∧ Below w.heap.size w w' := by
  obtain ⟨a, len, cap, rfl, hln, _, _, _⟩ := ht.un
  have P0 := hide (Blk.new w (exC nd (.slice a len cap)) 29)
  have B0 := hide (step (Below.refl w.heap.size w) (exO nd (.slice a len cap)))
  have HG := hide (begun9 (w.alloc (exO nd (.slice a len cap))))
  have H2 := hide (fun w' (h : Below w.heap.size w w') => may_any (.mk nd ks) (exV nd (.slice a len cap)) w' (ht.step h))
  rw [hf] at H2
  clear ht hln hf
  go_enter Try.func7, Try.ntmps7
  try simp only [List.append]
  go_wp2_with (first
    | (go_at_call 9; refine HG.out.mono ?_; rintro e w0 ⟨rfl, hb⟩; have Q0 := hide (P0.out.keep hb); have b0 := hide (next B0.out hb); clear hb)
    | (refine wpList_load_blk rfl 29 _ rfl _ rfl _ (by with_reducible exact Q0.out) _ Try.underlying29 rfl (exC_info _ _) ?_)
    | (go_at_call 17; refine (H2.out _ b0.out).mono ?_; rintro e w1 ⟨rfl, hb⟩; have b1 := hide (next b0.out hb); clear hb))
  all_goals go_ret
  all_goals exact ⟨rfl, b1.out⟩
end Go.Proofs.Ytdegfmebgllklaa
