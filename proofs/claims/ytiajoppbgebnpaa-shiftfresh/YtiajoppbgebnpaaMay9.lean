/- tree.isAsTold of every node; tree.May of every tree. -/
import Derived.Test.YtiajoppbgebnpaaTold9a
import Derived.Test.YtiajoppbgebnpaaTold9b
import Derived.Test.YtiajoppbgebnpaaTold9c
import Derived.Test.YtiajoppbgebnpaaTold9d
import Derived.Test.YtiajoppbgebnpaaTold9e
import Derived.Test.YtiajoppbgebnpaaTold9f
namespace Go.Proofs.Ytiajoppbgebnpaa
open Go.RowKit Go.Sort
set_option linter.unusedVariables false

theorem told_any (n : Nd) (a : Option Addr) (len cap : Nat) (w : World) : Calls Try.prog 39 #[exV n (.slice a len cap)] w fun e w' => e = .returned (.bool (toldB n len)) ∧ Below w.heap.size w w' := by
  by_cases h : 1 ≤ n.kind ∧ n.kind ≤ 9
  · rcases (show n.kind = 1 ∨ n.kind = 2 ∨ n.kind = 3 ∨ n.kind = 4 ∨ n.kind = 5 ∨ n.kind = 6 ∨ n.kind = 7 ∨ n.kind = 8 ∨ n.kind = 9 by omega) with h | h | h | h | h | h | h | h | h
    · exact told_1 n a len cap w h
    · exact told_2 n a len cap w h
    · exact told_3 n a len cap w h
    · exact told_4 n a len cap w h
    · cases q : mayB n.ref.row n.ref.col
      · exact told_5f n a len cap w h q
      · exact told_5t n a len cap w h q
    · cases q : mayB n.ref.row n.ref.col
      · exact told_6f n a len cap w h q
      · cases q' : mayB n.to.row n.to.col
        · exact told_6tf n a len cap w h ⟨q, q'⟩
        · exact told_6tt n a len cap w h ⟨q, q'⟩
    · exact told_7 n a len cap w h
    · exact told_8 n a len cap w h
    · cases q : takesB n.fn len
      · exact told_9f n a len cap w h q
      · exact told_9t n a len cap w h q
  · exact told_0 n a len cap w h
mutual
/-- Are all nodes as told? -/
def allE : Ex → Bool | .mk nd ks => toldB nd ks.length && allL ks
def allL : List Ex → Bool | [] => true | k :: r => allE k && allL r
end
def mySt (s : Unit) (nd : Nd) (len : Nat) (d : Int) : Bool × Unit := (toldB nd len, ())
mutual
theorem goE_my : ∀ (t : Ex) (d : Int) (s : Unit), (goE mySt d t s).1 = allE t
  | .mk nd ks, d, s => by
    rw [goE, allE]
    show (if toldB nd ks.length = true then goL mySt (d + 1) ks () else (false, ())).1 = _
    cases toldB nd ks.length
    · rfl
    · simp only [if_true, Bool.true_and]; exact goL_my ks (d + 1) ()
theorem goL_my : ∀ (ks : List Ex) (d : Int) (s : Unit), (goL mySt d ks s).1 = allL ks
  | [], d, s => by rw [goL, allL]
  | k :: r, d, s => by
    rw [goL, allL]
    have := goE_my k d s
    rw [this]
    cases allE k
    · simp
    · simp; exact goL_my r d _
end
set_option maxHeartbeats 1000000 in
set_option maxRecDepth 100000 in
theorem my_call (nd : Nd) (a : Option Addr) (len cap : Nat) (d : Int) (w : World) : Calls Try.prog 38 #[exV nd (.slice a len cap), .int .i64 d] w fun e w' => e = .returned (.bool (toldB nd len)) ∧ Below w.heap.size w w' := by
  have HT := hide (told_any nd a len cap (w.alloc (exO nd (.slice a len cap))))
  have hld := hide (Blk.new w (exC nd (.slice a len cap)) 37)
  generalize toldB nd len = B at *
  go_enter Try.func38, Try.ntmps38
  go_wp2_with (first
    | (refine wpList_load_blk rfl 37 _ rfl _ rfl _ hld.out _ Try.underlying37 rfl (exC_info _ _) ?_)
    | (go_at_call 39; refine HT.out.mono ?_; rintro e w1 ⟨rfl, hb1⟩; have hb1 := hide (next (step (Below.refl _ w) _) hb1)))
  go_ret
  exact ⟨rfl, hb1.out⟩
theorem my_see : See (fun (_ : Unit) _ => True) (fun _ => False) mySt 38 #[] where
  call s nd a len cap d w _ := by
    have := my_call nd a len cap d w
    refine (show Calls Try.prog 38 (#[exV nd (.slice a len cap), .int .i64 d] ++ #[]) w _ from this).mono ?_
    rintro e w' ⟨rfl, hb⟩
    exact ⟨rfl, trivial, Chg.of_below hb⟩
  ent := enters Try.func38 (by kernel_rfl) (by kernel_rfl)
  lt s w _ k h := h.elim
  same s w w' _ _ := trivial
theorem depth_mem : ∀ {ks : List Ex} {k : Ex}, k ∈ ks → depthE k ≤ depthL ks
  | [], k, h => by cases h
  | x :: r, k, h => by
    rw [depthL]
    rcases List.mem_cons.1 h with rfl | h
    · omega
    · have := depth_mem h; omega
/-- What May answers. -/
def mayR (t : Ex) : Int := if fitB t then (if allE t then 0 else 22) else 2
set_option maxHeartbeats 1000000 in
set_option maxRecDepth 100000 in
theorem may_any (t : Ex) (v : Value) (w : World) (ht : Tree w v t) : Calls Try.prog 26 #[v] w fun e w' => e = .returned (.int .i64 (mayR t)) ∧ Below w.heap.size w w' := by
  obtain ⟨nd, ks⟩ := t
  obtain ⟨a, len, cap, rfl, _, _, _, _⟩ := ht.un
  have bel := step (Below.refl w.heap.size w) (exO nd (.slice a len cap))
  have P0 := hide (Blk.new w (exC nd (.slice a len cap)) 37)
  have HG := hide (great_any (.mk nd ks) (exV nd (.slice a len cap)) _ (ht.step bel))
  replace bel := hide bel
  cases q : fitB (.mk nd ks)
  · rw [q] at HG
    have hr : mayR (.mk nd ks) = 2 := by unfold mayR; rw [q]; rfl
    rw [hr]
    clear hr
    go_enter Try.func26, Try.ntmps26
    go_wp2_with (first
      | (refine wpList_load_blk rfl 37 _ rfl _ rfl _ P0.out _ Try.underlying37 rfl (exC_info _ _) ?_)
      | (go_at_call 36; refine HG.out.mono ?_; rintro e w1 ⟨rfl, hb1⟩; replace hb1 := hide (next bel.out hb1)))
    go_ret
    exact ⟨rfl, hb1.out⟩
  · rw [q] at HG
    have hd := (of_decide_eq_true q).2.1
    have HO := hide (fun w1 (h : Tree w1 (exV nd (.slice a len cap)) (.mk nd ks)) => over_any my_see w1.heap.size (fun k h => h.elim) (fun d t => 1 ≤ d ∧ d + depthE t ≤ 70) (by
      intro d t s hd _
      obtain ⟨nd, ks⟩ := t
      rw [depthE] at hd
      exact ⟨by omega, by omega, fun k hk => ⟨by omega, by have : depthE k ≤ depthL ks := depth_mem hk; omega⟩⟩) (.mk nd ks) (exV nd (.slice a len cap)) () w1 ⟨by omega, by omega⟩ h (Nat.le_refl _) trivial)
    have hr : mayR (.mk nd ks) = if allE (.mk nd ks) then 0 else 22 := by unfold mayR; rw [q]; rfl
    rw [hr]
    simp only [goE_my] at HO
    replace ht := hide ht
    clear hr hd
    cases q2 : allE (.mk nd ks)
    all_goals
      rw [q2] at HO
      go_enter Try.func26, Try.ntmps26
      go_wp2_with (first
        | (refine wpList_load_blk rfl 37 _ rfl _ rfl _ P0.out _ Try.underlying37 rfl (exC_info _ _) ?_)
        | (refine wpList_load_blk rfl 37 _ rfl _ rfl _ (by with_reducible exact P1.out) _ Try.underlying37 rfl (exC_info _ _) ?_)
        | (go_at_call 36; refine HG.out.mono ?_; rintro e w1 ⟨rfl, hb1⟩; have P1 := hide (P0.out.keep hb1); replace hb1 := hide (next bel.out hb1))
        | (go_at_call 37; refine (HO.out _ (ht.out.step hb1.out)).mono ?_; rintro e w2 ⟨rfl, _, hc2⟩; have hb2 := hide (next hb1.out (hc2.below (Nat.le_refl _) (fun k h => h.elim)))))
      go_ret
      exact ⟨rfl, hb2.out⟩
end Go.Proofs.Ytiajoppbgebnpaa
