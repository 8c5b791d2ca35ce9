/- plays: Same. -/
import Derived.Test.YtgopolelpckjcaaOpM9
namespace Go.Proofs.Ytgopolelpckjcaa
open Go.RowKit Go.Sort
set_option linter.unusedVariables false

set_option maxHeartbeats 2000000 in
set_option maxRecDepth 100000 in
theorem plays_same (k : Int) (hk : k = 3) (n1 : Nd) (ks : List Ex) (a1 : Option Addr) (l1 c1 : Nat) (n2 : Nd) (ls : List Ex) (a2 : Option Addr) (l2 c2 : Nat) (w : World) (h1 : Tree w (exV n1 (.slice a1 l1 c1)) (.mk n1 ks)) (h2 : Tree w (exV n2 (.slice a2 l2 c2)) (.mk n2 ls)) :
    Calls Try.prog 7 #[.agg (opC k n1 (.slice a1 l1 c1) n2 (.slice a2 l2 c2))] w fun e w' => e = .returned (.bool true) ∧ Below w.heap.size w w' := by
  have B0 := hide (step (Below.refl w.heap.size w) (.cells (opC k n1 (.slice a1 l1 c1) n2 (.slice a2 l2 c2)) 31))
  have P0 := hide (op_at (Blk.new w (opC k n1 (.slice a1 l1 c1) n2 (.slice a2 l2 c2)) 31))
  have q0 := P0.out.k
  obtain ⟨W, hW⟩ : ∃ W, (w.alloc (.cells (opC k n1 (.slice a1 l1 c1) n2 (.slice a2 l2 c2)) 31)) = W := ⟨_, rfl⟩
  rw [hW] at P0 q0
  have T1 := h1.step B0.out
  rw [hW] at T1
  have T2 := h2.step B0.out
  rw [hW] at T2
  obtain ⟨x0, x1, x2, x3, x4, x5, x6, x7, x8, x9, x10, x11, x12, x13⟩ := range14 P0.out.t
  simp only [Nat.reduceAdd] at x1 x2 x3 x4 x5 x6 x7 x8 x9 x10 x11 x12 x13
  have rx0 := cell_regrown x0
  have rx1 := cell_regrown x1
  have rx2 := cell_regrown x2
  have rx3 := cell_regrown x3
  have rx4 := cell_regrown x4
  have rx5 := cell_regrown x5
  have rx6 := cell_regrown x6
  have rx7 := cell_regrown x7
  have rx8 := cell_regrown x8
  have rx9 := cell_regrown x9
  have rx10 := cell_regrown x10
  have rx11 := cell_regrown x11
  have rx12 := cell_regrown x12
  have rx13 := cell_regrown x13
  clear x0 x1 x2 x3 x4 x5 x6 x7 x8 x9 x10 x11 x12 x13
  obtain ⟨y0, y1, y2, y3, y4, y5, y6, y7, y8, y9, y10, y11, y12, y13⟩ := range14 P0.out.u
  simp only [Nat.reduceAdd] at y1 y2 y3 y4 y5 y6 y7 y8 y9 y10 y11 y12 y13
  have ry0 := cell_regrown y0
  have ry1 := cell_regrown y1
  have ry2 := cell_regrown y2
  have ry3 := cell_regrown y3
  have ry4 := cell_regrown y4
  have ry5 := cell_regrown y5
  have ry6 := cell_regrown y6
  have ry7 := cell_regrown y7
  have ry8 := cell_regrown y8
  have ry9 := cell_regrown y9
  have ry10 := cell_regrown y10
  have ry11 := cell_regrown y11
  have ry12 := cell_regrown y12
  have ry13 := cell_regrown y13
  clear y0 y1 y2 y3 y4 y5 y6 y7 y8 y9 y10 y11 y12 y13
  obtain ⟨m, hm⟩ : ∃ m, (fitB (.mk n1 ks) && fitB (.mk n2 ls) && sameE (.mk n1 ks) (.mk n2 ls)) = m := ⟨_, rfl⟩
  have km : ∀ d os, Calls Try.prog 16 #[lit14 n1 (.slice a1 l1 c1), lit14 n2 (.slice a2 l2 c2)] (grow (redrawn W d) os) fun e w'' => e = .returned (.bool m) ∧ ∃ p : Regrown, w'' = grow (redrawn W p.d) p.os := fun d' os => by rw [← hm]; exact Calls.regrown_of (same_any (.mk n1 ks) (.mk n2 ls) _ _ (grow (redrawn W d') os) (T1.step (below_regrown W d' os)) (T2.step (below_regrown W d' os)))
  have kn : ∀ d os, Calls Try.prog 21 #[lit14 n1 (.slice a1 l1 c1), lit14 n2 (.slice a2 l2 c2)] (grow (redrawn W d) os) fun e w'' => e = .returned (.bool m) ∧ ∃ p : Regrown, w'' = grow (redrawn W p.d) p.os := fun d' os => by rw [← hm]; exact Calls.regrown_of (rsame_any (.mk n1 ks) (.mk n2 ls) _ _ (grow (redrawn W d') os) (T1.step (below_regrown W d' os)) (T2.step (below_regrown W d' os)))
  subst hk
  replace hW := hide hW
  clear h1 h2 hm P0 T1 T2
  go_enter Try.func7, Try.ntmps7
  have hWo := hW.out
  go_wp2_with fail
  refine wp_region_quiet_below (by kernel_rfl) (by kernel_rfl) ?_
  repeat (first | (go_big_quiet_step (with_reducible exact km _ _)) | (go_big_quiet_step (with_reducible exact kn _ _)))
  refine wpQuiet_nil ?_
  intro _ hw'
  obtain ⟨⟨dq, osq⟩, hw''⟩ := hw'
  subst hw''
  have hbz := hide (below_regrown W dq osq)
  go_wp2_with fail
  go_ret
  exact ⟨rfl, next B0.out (by rw [hW.out]; exact hbz.out)⟩
end Go.Proofs.Ytgopolelpckjcaa
