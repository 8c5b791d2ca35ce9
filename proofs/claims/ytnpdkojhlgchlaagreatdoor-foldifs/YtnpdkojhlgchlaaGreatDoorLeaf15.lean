/- Package fold's small functions: finish, Next, End, endWith, fault, number, truth, columns, may; the law's num and cells. Proved of the Go text. -/
import Derived.Test.YtnpdkojhlgchlaaGreatDoorKit15
import Derived.StillTailTactics
import Derived.BigRegion
namespace Go.Proofs.YtnpdkojhlgchlaaGreatDoor
open Go.RowKit Go.Sort
open T9 (Blk Chg)
set_option linter.unusedVariables false

theorem blk_setCells {b : Nat} {t : TypeId} : ∀ (vs : List Value) (o : Nat) (w : World) (cs : Array Value), Blk w b cs t → ∃ cs', Blk (w.setCells b o vs) b cs' t ∧ cs'.size = cs.size
  | [], o, w, cs, h => ⟨cs, h, rfl⟩
  | v :: r, o, w, cs, h => by
    obtain ⟨cs', h1, h2⟩ := blk_setCells r (o + 1) _ _ (h.set o v)
    exact ⟨cs', h1, by rw [h2]; simp⟩
theorem blk_setAll {b : Nat} {t : TypeId} {w : World} {cs vs : Array Value} (h : Blk w b cs t) (hs : cs.size = vs.size) : Blk (w.setCells b 0 vs.toList) b vs t := by
  obtain ⟨cs', h1, h2⟩ := blk_setCells vs.toList 0 w cs h
  have ht : w.there b 0 vs.toList.length := fun j hj => by
    have hj' : j < cs.size := by simpa [hs] using hj
    refine ⟨?_, h.fr _⟩
    rw [h.at', Nat.zero_add, Array.getElem?_eq_getElem hj']
    rfl
  have hr := World.rangeAt_setCells_same w b 0 vs.toList ht
  have he : cs' = vs := by
    apply Array.ext (by omega)
    intro j h3 h4
    have := hr j vs[j] (by simp [h4])
    rw [h1.at', Nat.zero_add, Array.getElem?_eq_getElem h3] at this
    exact Option.some.inj this
  rw [← he]
  exact he ▸ h1
theorem chg15 (B : Nat) : ∀ (vs : List Value) (o : Nat) (w : World), Chg (· = B) w (w.setCells B o vs)
  | [], o, w => Chg.refl _ _
  | v :: r, o, w => Chg.trans ((Chg.refl (· = B) w).set B o v rfl) (chg15 B r (o + 1) _)
set_option maxHeartbeats 2000000 in
set_option maxRecDepth 100000 in
theorem finish_any {w : World} {B : Nat} {th gi ce be se la rest : Value} {wk : Int} {wt : Bool} {r c : Int} {bs : Bool} {z0 z1 : Int} {z2 : ByteArray} (h : Blk w B (fC th gi ce be se la rest wk wt r c bs z0 z1 z2) 79) (x0 x1 : Int) (x2 : ByteArray) : Calls Tryz.prog 27 #[.pointer (some ⟨B, 0, none⟩), vV x0 x1 x2] w fun e w' => e = .returned (.tuple #[]) ∧ Ovr w' B ⟨x0, x1, x2⟩ ∧ Chg (· = B) w w' := by
  have h1 := h.alloc (vO x0 x1 x2)
  obtain ⟨cs, hcs⟩ : ∃ cs, (fC (.slice none 0 0) .nilFunc .nilFunc .nilFunc .nilFunc .nilFunc (.slice none 0 0) 0 false 0 0 false x0 x1 x2) = cs := ⟨_, rfl⟩
  have hsz : cs.size = 15 := by rw [← hcs]; rfl
  have hone : cs.all (·.oneCell') = true := by rw [← hcs]; simp [Value.oneCell']
  have hth : (w.alloc (vO x0 x1 x2)).there B 0 cs.size := fun j hj => by
    have hj' : j < (fC th gi ce be se la rest wk wt r c bs z0 z1 z2).size := by rw [hsz] at hj; exact hj
    refine ⟨?_, h1.fr _⟩
    rw [h1.at', Nat.zero_add, Array.getElem?_eq_getElem hj']
    rfl
  have hin : (Tryz.prog.info? 79).map (·.size) = some cs.size := by rw [hsz]; kernel_rfl
  have h2 := blk_setAll (vs := cs) h1 hsz.symm
  have hc := (Chg.of_below (step (Below.refl w.heap.size w) (vO x0 x1 x2)) : Chg (· = B) w _).trans (chg15 B cs.toList 0 (w.alloc (vO x0 x1 x2)))
  have hov : Ovr ((w.alloc (vO x0 x1 x2)).setCells B 0 cs.toList) B ⟨x0, x1, x2⟩ := by unfold Ovr; rw [hcs]; exact h2
  have hrun : (storeCells ⟨B, 0, none⟩ cs.toList).run Tryz.prog (w.alloc (vO x0 x1 x2)) = .ok () ((w.alloc (vO x0 x1 x2)).setCells B 0 cs.toList) :=
    run_storeCells_cells (P := Tryz.prog) B 0 cs.toList 0 _ (fun j hj => (hth j (by simpa using hj)).1) (fun j hj => (hth j (by simpa using hj)).2) (fun v hv => (Array.all_eq_true_iff_forall_mem.1 hone) v (by simpa using hv))
  clear hth hin hone
  replace hc := hide hc
  replace hov := hide hov
  clear h2 h1 h
  go_enter Tryz.func27, Tryz.ntmps27
  go_wp2_with fail
  refine Go.Great.bodyPost_end0 rfl rfl ?_
  exact ⟨rfl, hov.out, hc.out⟩
set_option maxHeartbeats 2000000 in
set_option maxRecDepth 100000 in
theorem next_any {w : World} {B : Nat} {th gi ce be se la rest : Value} {wk : Int} {wt : Bool} {r c : Int} {bs : Bool} {x0 x1 : Int} {x2 : ByteArray} (h : Blk w B (fC th gi ce be se la rest wk wt r c bs x0 x1 x2) 79) : Calls Tryz.prog 12 #[.pointer (some ⟨B, 0, none⟩)] w fun e w' => e = .returned (.tuple #[.agg #[.int .i64 r, .int .i64 c], .bool wt]) ∧ Below w.heap.size w w' := by
  have c8 : ∀ o, (w.alloc o).cell? ⟨B, 8, none⟩ = some (.bool wt) := fun o => (h.alloc o).at' 8
  have c9 : ∀ o, (w.alloc o).cell? ⟨B, 9, none⟩ = some (.int .i64 r) := fun o => (h.alloc o).at' 9
  have c10 : ∀ o, (w.alloc o).cell? ⟨B, 10, none⟩ = some (.int .i64 c) := fun o => (h.alloc o).at' 10
  have h := hide h
  go_enter Tryz.func12, Tryz.ntmps12
  go_wp2_with fail
  go_region
  all_goals (go_wp2_with fail)
  refine bodyPost_ret (v := .tuple #[.agg #[.int .i64 r, .int .i64 c], .bool wt]) (by simp [results, Tryz.results12, go_sem]; try rfl) rfl ?_
  exact ⟨rfl, by go_grown⟩
set_option maxHeartbeats 2000000 in
set_option maxRecDepth 100000 in
theorem end_any {w : World} {B : Nat} {th gi ce be se la rest : Value} {wk : Int} {wt : Bool} {r c : Int} {bs : Bool} {x0 x1 : Int} {x2 : ByteArray} (h : Blk w B (fC th gi ce be se la rest wk wt r c bs x0 x1 x2) 79) : Calls Tryz.prog 13 #[.pointer (some ⟨B, 0, none⟩)] w fun e w' => e = .returned (.tuple #[vV x0 x1 x2, .bool (!wt)]) ∧ Below w.heap.size w w' := by
  have c8 : ∀ o, (w.alloc o).cell? ⟨B, 8, none⟩ = some (.bool wt) := fun o => (h.alloc o).at' 8
  have c12 : ∀ o, (w.alloc o).cell? ⟨B, 12, none⟩ = some (.int .i64 x0) := fun o => (h.alloc o).at' 12
  have c13 : ∀ o, (w.alloc o).cell? ⟨B, 13, none⟩ = some (.int .i64 x1) := fun o => (h.alloc o).at' 13
  have c14 : ∀ o, (w.alloc o).cell? ⟨B, 14, none⟩ = some (.string x2) := fun o => (h.alloc o).at' 14
  have h := hide h
  go_enter Tryz.func13, Tryz.ntmps13
  go_wp2_with fail
  go_region
  all_goals (go_wp2_with fail)
  refine bodyPost_ret (v := .tuple #[vV x0 x1 x2, .bool (!wt)]) (by simp [results, Tryz.results13, go_sem]; try rfl) rfl ?_
  exact ⟨rfl, by go_grown⟩
set_option maxHeartbeats 400000 in
theorem lnum_is (n : Int) : CallIs 8 #[.int .i64 n] (vV 1 n no) := by
  intro w
  go_enter Tryz.func8, Tryz.ntmps8
  go_wp2_with fail
  go_returns
  exact ⟨rfl, by go_grown⟩
set_option maxHeartbeats 400000 in
theorem fnum_is (n : Int) : CallIs 91 #[.int .i64 n] (vV 1 n no) := by
  intro w
  go_enter Tryz.func91, Tryz.ntmps91
  go_wp2_with fail
  go_returns
  exact ⟨rfl, by go_grown⟩
set_option maxHeartbeats 400000 in
theorem ffault_is (n : Int) : CallIs 106 #[.int .i64 n] (vV 4 n no) := by
  intro w
  go_enter Tryz.func106, Tryz.ntmps106
  go_wp2_with fail
  go_returns
  exact ⟨rfl, by go_grown⟩
set_option maxHeartbeats 400000 in
theorem ftruth_is (b : Bool) : CallIs 173 #[.bool b] (vV 2 (if b then 1 else 0) no) := by
  intro w
  cases b
  · go_enter Tryz.func173, Tryz.ntmps173
    go_wp2_with fail
    go_returns
    exact ⟨rfl, by go_grown⟩
  · go_enter Tryz.func173, Tryz.ntmps173
    go_wp2_with fail
    go_returns
    exact ⟨rfl, by go_grown⟩
set_option maxHeartbeats 400000 in
theorem endWith_is (k i : Int) (t : ByteArray) : CallIs 125 #[vV k i t] (stA false true k i t) := by
  intro w
  go_enter Tryz.func125, Tryz.ntmps125
  go_wp2_with fail
  go_returns
  exact ⟨rfl, by go_grown⟩
set_option maxHeartbeats 400000 in
theorem columns_is (t l b r : Int) (hl : 0 ≤ l) (hlr : l ≤ r) (hr : r < 702) : CallIs 129 #[.agg #[.int .i64 t, .int .i64 l, .int .i64 b, .int .i64 r]] (.int .i64 (r - l + 1)) := by
  intro w
  have w1 := IntWalk.wrap64_in (r - l) ⟨by omega, by omega⟩
  have w2 := IntWalk.wrap64_in (r - l + 1) ⟨by omega, by omega⟩
  clear hl hlr hr
  go_enter Tryz.func129, Tryz.ntmps129
  go_wp2_with fail
  go_ret
  exact ⟨by show Ending.returned (.int .i64 (wrap64 (r - l + 1))) = _; rw [w2], by go_grown⟩
set_option maxHeartbeats 400000 in
theorem cells_is (n : Int) (h0 : 0 ≤ n) (h1 : n ≤ 300) : CallIs 11 #[.int .i64 n] (agV ⟨true, 0, 0, n - 1, 0, ⟨0, 0, no⟩⟩) := by
  intro w
  have w1 := IntWalk.wrap64_in (n - 1) ⟨by omega, by omega⟩
  clear h0 h1
  go_enter Tryz.func11, Tryz.ntmps11
  go_wp2_with fail
  go_returns
  exact ⟨rfl, by go_grown⟩
end Go.Proofs.YtnpdkojhlgchlaaGreatDoor
