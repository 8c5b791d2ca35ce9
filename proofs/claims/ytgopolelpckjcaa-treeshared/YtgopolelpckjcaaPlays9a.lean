/- plays: May. -/
import Derived.Test.YtgopolelpckjcaaOpM9
namespace Go.Proofs.Ytgopolelpckjcaa
open Go.RowKit Go.Sort
set_option linter.unusedVariables false

set_option maxHeartbeats 2000000 in
set_option maxRecDepth 100000 in
theorem plays_may (k : Int) (hk : k = 1) (n1 : Nd) (ks : List Ex) (a1 : Option Addr) (l1 c1 : Nat) (n2 : Nd) (ls : List Ex) (a2 : Option Addr) (l2 c2 : Nat) (w : World) (h1 : Tree w (exV n1 (.slice a1 l1 c1)) (.mk n1 ks)) (h2 : Tree w (exV n2 (.slice a2 l2 c2)) (.mk n2 ls)) :
    Calls Try.prog 7 #[.agg (opC k n1 (.slice a1 l1 c1) n2 (.slice a2 l2 c2))] w fun e w' => e = .returned (.bool true) ∧ Below w.heap.size w w' := by
  have B0 := hide (step (Below.refl w.heap.size w) (.cells (opC k n1 (.slice a1 l1 c1) n2 (.slice a2 l2 c2)) 31))
  have P0 := hide (op_at (Blk.new w (opC k n1 (.slice a1 l1 c1) n2 (.slice a2 l2 c2)) 31))
  have q0 := P0.out.k
  obtain ⟨W, hW⟩ : ∃ W, (w.alloc (.cells (opC k n1 (.slice a1 l1 c1) n2 (.slice a2 l2 c2)) 31)) = W := ⟨_, rfl⟩
  rw [hW] at P0 q0
  have T1 := h1.step B0.out
  rw [hW] at T1
  obtain ⟨x0, x1, x2, x3, x4, x5, x6, x7, x8, x9, x10, x11, x12, x13⟩ := range14 P0.out.t
  simp only [Nat.reduceAdd] at x1 x2 x3 x4 x5 x6 x7 x8 x9 x10 x11 x12 x13
  have rx0 := cell_regrown x0
  have rx1 := cell_regrown x1
  have rx2 := cell_regrown x2
  have rx3 := cell_regrown x3
  have rx4 := cell_regrown x4
  have rx5 := cell_regrown x5
  have rx6 := cell_regrown x6
  have rx7 := cell_regrown x7
  have rx8 := cell_regrown x8
  have rx9 := cell_regrown x9
  have rx10 := cell_regrown x10
  have rx11 := cell_regrown x11
  have rx12 := cell_regrown x12
  have rx13 := cell_regrown x13
  clear x0 x1 x2 x3 x4 x5 x6 x7 x8 x9 x10 x11 x12 x13
  obtain ⟨m, hm⟩ : ∃ m, mayR (.mk n1 ks) = m := ⟨_, rfl⟩
  have km : ∀ d os, Calls Try.prog 14 #[lit14 n1 (.slice a1 l1 c1)] (grow (redrawn W d) os) fun e w'' => e = .returned (.int .i64 m) ∧ ∃ p : Regrown, w'' = grow (redrawn W p.d) p.os := fun d' os => by rw [← hm]; exact Calls.regrown_of (may_any (.mk n1 ks) _ (grow (redrawn W d') os) (T1.step (below_regrown W d' os)))
  have kn : ∀ d os, Calls Try.prog 20 #[lit14 n1 (.slice a1 l1 c1)] (grow (redrawn W d) os) fun e w'' => e = .returned (.int .i64 m) ∧ ∃ p : Regrown, w'' = grow (redrawn W p.d) p.os := fun d' os => by rw [← hm]; exact Calls.regrown_of (rmay_any (.mk n1 ks) _ (grow (redrawn W d') os) (T1.step (below_regrown W d' os)))
  subst hk
  replace hW := hide hW
  clear h1 h2 hm P0 T1
  go_enter Try.func7, Try.ntmps7
  have hWo := hW.out
  go_wp2_with fail
  refine wp_region_quiet_below (by kernel_rfl) (by kernel_rfl) ?_
  repeat (first | (go_big_quiet_step (with_reducible exact km _ _)) | (go_big_quiet_step (with_reducible exact kn _ _)))
  refine wpQuiet_nil ?_
  intro _ hw'
  obtain ⟨⟨dq, osq⟩, hw''⟩ := hw'
  subst hw''
  have hbz := hide (below_regrown W dq osq)
  go_wp2_with fail
  go_ret
  exact ⟨rfl, next B0.out (by rw [hW.out]; exact hbz.out)⟩
end Go.Proofs.Ytgopolelpckjcaa
