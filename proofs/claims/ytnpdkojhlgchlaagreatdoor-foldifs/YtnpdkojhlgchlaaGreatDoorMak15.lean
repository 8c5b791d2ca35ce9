/- Package fold's sum: what makes its rule. Proved of the Go text. -/
import Derived.Test.YtnpdkojhlgchlaaGreatDoorTot15
namespace Go.Proofs.YtnpdkojhlgchlaaGreatDoor
open Go.RowKit Go.Sort
open T9 (Blk Chg)
set_option linter.unusedVariables false

set_option maxHeartbeats 1000000 in
theorem into_is (p : Option Addr) (n : Nat) (w : World) : Calls Tryz.prog 88 #[.pointer p, .func (.func n) #[] #[]] w fun e w' => e = .returned (.func (.func 159) #[] #[.pointer (some ⟨w.heap.size + 1, 0, none⟩), .pointer (some ⟨w.heap.size, 0, none⟩)]) ∧ w' = (w.alloc (.cells #[.pointer p] 116)).alloc (.cells #[.func (.func n) #[] #[]] 117) := by
  go_enter Tryz.func88, Tryz.ntmps88
  go_wp2_with fail
  go_ret
  exact ⟨rfl, rfl⟩
set_option maxHeartbeats 1000000 in
theorem ofn_is (n : Nat) (c : Array Value) (w : World) : Calls Tryz.prog 135 #[.func (.func n) #[] c] w fun e w' => e = .returned (.func (.func 188) #[] #[.pointer (some ⟨w.heap.size, 0, none⟩)]) ∧ w' = w.alloc (.cells #[.func (.func n) #[] c] 114) := by
  go_enter Tryz.func135, Tryz.ntmps135
  go_wp2_with fail
  go_ret
  exact ⟨rfl, rfl⟩
set_option maxHeartbeats 1000000 in
theorem gathering_is (a : Option Addr) (len cap n1 n2 : Nat) (c1 c2 : Array Value) (w : World) : Calls Tryz.prog 87 #[.slice a len cap, .func (.func n1) #[] c1, .func (.func n2) #[] c2] w fun e w' => e = .returned (.agg #[.slice a len cap, .func (.func 158) #[] #[.pointer (some ⟨w.heap.size, 0, none⟩)], .func (.func 188) #[] #[.pointer (some ⟨w.heap.size + 1 + 1, 0, none⟩)], .nilFunc, .nilFunc, .func (.func n2) #[] c2]) ∧ w' = ((w.alloc (.cells #[.func (.func n1) #[] c1] 114)).alloc (.cells #[.slice a len cap, .func (.func 158) #[] #[.pointer (some ⟨w.heap.size, 0, none⟩)], .func (.func 188) #[] #[.pointer (some ⟨w.heap.size + 1 + 1, 0, none⟩)], .nilFunc, .nilFunc, .func (.func n2) #[] c2] 74)).alloc (.cells #[.func (.func n1) #[] c1] 114) := by
  have HO := hide (fun w => ofn_is n1 c1 w)
  go_enter Tryz.func87, Tryz.ntmps87
  go_wp2_with fail
  refine (HO.out _).mono ?_
  rintro e w1 ⟨rfl, rfl⟩
  go_wp2_with fail
  refine bodyPost_ret (v := .agg #[.slice a len cap, .func (.func 158) #[] #[.pointer (some ⟨w.heap.size, 0, none⟩)], .func (.func 188) #[] #[.pointer (some ⟨w.heap.size + 1 + 1, 0, none⟩)], .nilFunc, .nilFunc, .func (.func n2) #[] c2]) (by simp [results, Tryz.results87, go_sem]; try rfl) rfl ?_
  exact ⟨rfl, rfl⟩
set_option maxHeartbeats 1000000 in
theorem sumL_ends (Bt Bs Br Bk Bl : Nat) : Ends (SumS Bt Bs Br Bk Bl) (fun n => ⟨1, n, no⟩) 90 #[.pointer (some ⟨Bt, 0, none⟩)] := by
  refine ⟨?_, ent_of Tryz.func90 (by kernel_rfl) (by kernel_rfl)⟩
  intro n m w hs
  have HN := fnum_is n
  have bt : (w.alloc (vO 0 0 no)).cell? ⟨Bt, 0, none⟩ = some (.int .i64 n) := (hs.1.alloc _).at' 0
  replace hs := hide hs
  go_enter Tryz.func90, Tryz.ntmps90
  go_wp2_with fail
  refine (HN.out _).mono ?_
  rintro e w1 ⟨rfl, hb1⟩
  have B1 := hide (next (step (Below.refl w.heap.size w) _) hb1)
  have cr := hide ((O3.new w (.int .i64 0) (.int .i64 0) (.string no) 31).keep hb1)
  have u0 := cr.out.1.1
  have u1 := cr.out.1.2.1
  have u2 := cr.out.1.2.2
  have uf := cr.out.2
  have Bq := hide (below_put3 (b := w.heap.size) B1.out (Nat.le_refl _) (.int .i64 1) (.int .i64 n) (.string no))
  replace cr := hide (cr.out.put (.int .i64 1) (.int .i64 n) (.string no))
  obtain ⟨wq, hwq⟩ : ∃ wq, put3 w1 w.heap.size (.int .i64 1) (.int .i64 n) (.string no) = wq := ⟨_, rfl⟩
  rw [hwq] at Bq cr
  unfold put3 at hwq
  have v0 := cr.out.1.1
  have v1 := cr.out.1.2.1
  have v2 := cr.out.1.2.2
  clear hb1 bt
  go_wp2_with fail
  refine bodyPost_ret (by simp [results, Tryz.results90, go_sem, v0, v1, v2]; try rfl) rfl ?_
  exact ⟨rfl, Chg.of_below Bq.out⟩
theorem blk_at (W : World) (n : Nat) (h : W.heap.size = n) (vs : Array Value) (t : TypeId) : Blk (W.alloc (.cells vs t)) n vs t := h ▸ Blk.new W vs t
set_option maxHeartbeats 2000000 in
theorem sum_mk (a : Option Addr) (len cap : Nat) (w : World) : Calls Tryz.prog 40 #[.slice a len cap] w fun e w' => e = .returned (.agg #[.slice a len cap, .func (.func 158) #[] #[.pointer (some ⟨w.heap.size + 4, 0, none⟩)], .func (.func 188) #[] #[.pointer (some ⟨w.heap.size + 6, 0, none⟩)], .nilFunc, .nilFunc, .func (.func 90) #[] #[.pointer (some ⟨w.heap.size + 1, 0, none⟩)]]) ∧ SumS (w.heap.size + 1) (w.heap.size + 2) (w.heap.size + 3) (w.heap.size + 4) (w.heap.size + 6) 0 (fun k => k = w.heap.size + 1 ∨ k = w.heap.size + 2 ∨ k = w.heap.size + 3 ∨ k = w.heap.size + 4 ∨ k = w.heap.size + 6) w' ∧ Below w.heap.size w w' := by
  go_enter Tryz.func40, Tryz.ntmps40
  go_wp2_with fail
  refine (into_is _ _ _).mono ?_
  rintro e w1 ⟨rfl, rfl⟩
  go_wp2_with fail
  refine (gathering_is _ _ _ _ _ _ _ _).mono ?_
  rintro e w1 ⟨rfl, rfl⟩
  go_wp2_with fail
  refine bodyPost_ret (v := .agg #[.slice a len cap, .func (.func 158) #[] #[.pointer (some ⟨w.heap.size + 4, 0, none⟩)], .func (.func 188) #[] #[.pointer (some ⟨w.heap.size + 6, 0, none⟩)], .nilFunc, .nilFunc, .func (.func 90) #[] #[.pointer (some ⟨w.heap.size + 1, 0, none⟩)]]) (by simp [results, Tryz.results40, go_sem]; try rfl) rfl ?_
  refine ⟨rfl, ⟨(((((blk_at _ _ (by simp) _ _).alloc _).alloc _).alloc _).alloc _).alloc _, ((((blk_at _ _ (by simp) _ _).alloc _).alloc _).alloc _).alloc _, (((blk_at _ _ (by simp) _ _).alloc _).alloc _).alloc _, ((blk_at _ _ (by simp) _ _).alloc _).alloc _, blk_at _ _ (by simp) _ _, rfl, by omega, by decide, by decide⟩, by go_grown⟩
end Go.Proofs.YtnpdkojhlgchlaaGreatDoor
