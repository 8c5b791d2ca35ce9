/- Package fold's MEDIAN: what is told of a sorted list. Proved of the Go text. -/
import Derived.Test.YtchphbclaapfhaaGreatDoorSrq15
import Derived.BigQuiet
namespace Go.Proofs.YtchphbclaapfhaaGreatDoor
open Go.RowKit Go.Sort
open T9 (Blk Chg)
set_option linter.unusedVariables false

def medT (L : List Int) : Va := if L.length = 0 then ⟨4, 2, no⟩ else if L.length % 2 = 1 then ⟨1, L.getD (L.length / 2) 0, no⟩ else ⟨1, mid (L.getD (L.length / 2 - 1) 0) (L.getD (L.length / 2) 0), no⟩
theorem getD_at {L : List Int} {j : Nat} (h : j < L.length) : L[j]? = some (L.getD j 0) := by rw [List.getElem?_eq_getElem h]; simp [List.getD, List.getElem?_eq_getElem h]
set_option maxHeartbeats 4000000 in
set_option maxRecDepth 100000 in
theorem med_tell : TellIs (fun _ => True) medT 77 #[] := by
  refine ⟨?_, ent_of Tryz.func77 (by kernel_rfl) (by kernel_rfl)⟩
  intro L v w _ hr hl hbd
  have K1 := hide (step (Below.refl w.heap.size w) (vO 0 0 no))
  by_cases c0 : L.length = 0
  · have he : medT L = ⟨4, 2, no⟩ := if_pos c0
    rw [he]
    obtain ⟨a, n, cap, rfl, hn⟩ := hr.shapeN
    rw [c0] at hn
    subst hn
    have HF := ffault_is 2
    clear hr hbd he hl c0
    go_enter Tryz.func77, Tryz.ntmps77
    go_wp2_with fail
    refine (HF.out _).mono ?_
    rintro e w1 ⟨rfl, hb1⟩
    have B1 := hide (next K1.out hb1)
    have cr := hide ((O3.new w (.int .i64 0) (.int .i64 0) (.string no) 28).keep hb1)
    clear hb1
    have u0 := cr.out.1.1
    have u1 := cr.out.1.2.1
    have u2 := cr.out.1.2.2
    have uf := cr.out.2
    have Bq := hide (below_put3 (b := w.heap.size) B1.out (Nat.le_refl _) (.int .i64 4) (.int .i64 2) (.string no))
    replace cr := hide (cr.out.put (.int .i64 4) (.int .i64 2) (.string no))
    obtain ⟨wq, hwq⟩ : ∃ wq, put3 w1 w.heap.size (.int .i64 4) (.int .i64 2) (.string no) = wq := ⟨_, rfl⟩
    rw [hwq] at Bq cr
    unfold put3 at hwq
    have v0 := cr.out.1.1
    have v1 := cr.out.1.2.1
    have v2 := cr.out.1.2.2
    go_wp2_with fail
    refine bodyPost_ret (by simp [results, Tryz.results77, go_sem, v0, v1, v2]; try rfl) rfl ?_
    exact ⟨rfl, Bq.out⟩
  · obtain ⟨g, cap, rfl, hc⟩ := (hr.keep K1.out).cells (by omega)
    obtain ⟨h, hh⟩ : ∃ h : Nat, L.length / 2 = h := ⟨_, rfl⟩
    have hq : ((L.length : Nat) : Int).tdiv 2 = (h : Int) := by rw [← hh]; rfl
    have q0 : (h : Int) < (L.length : Int) := by omega
    have hn2 : ((L.length : Nat) : Int) < 4611686018427387904 := by omega
    have a0 := hc h _ (getD_at (by omega))
    have t0 : (((L.length : Nat) : Int) == 0) = false := by rw [beq_eq_false_iff_ne]; omega
    by_cases c1 : L.length % 2 = 1
    · have he : medT L = ⟨1, L.getD h 0, no⟩ := by unfold medT; rw [if_neg c0, if_pos c1, hh]
      rw [he]
      have t1 : ((L.length : Nat) : Int).tmod 2 = 1 := by rw [show ((L.length : Nat) : Int).tmod 2 = ((L.length % 2 : Nat) : Int) from rfl, c1]; rfl
      have HN := fnum_is (L.getD h 0)
      generalize L.getD h 0 = y at *
      generalize L.length = n at *
      clear hc hr hbd he hl c0 c1
      go_enter Tryz.func77, Tryz.ntmps77
      go_wp2_with fail
      refine (HN.out _).mono ?_
      rintro e w1 ⟨rfl, hb1⟩
      have B1 := hide (next K1.out hb1)
      have cr := hide ((O3.new w (.int .i64 0) (.int .i64 0) (.string no) 28).keep hb1)
      clear hb1 a0
      have u0 := cr.out.1.1
      have u1 := cr.out.1.2.1
      have u2 := cr.out.1.2.2
      have uf := cr.out.2
      have Bq := hide (below_put3 (b := w.heap.size) B1.out (Nat.le_refl _) (.int .i64 1) (.int .i64 y) (.string no))
      replace cr := hide (cr.out.put (.int .i64 1) (.int .i64 y) (.string no))
      obtain ⟨wq, hwq⟩ : ∃ wq, put3 w1 w.heap.size (.int .i64 1) (.int .i64 y) (.string no) = wq := ⟨_, rfl⟩
      rw [hwq] at Bq cr
      unfold put3 at hwq
      have v0 := cr.out.1.1
      have v1 := cr.out.1.2.1
      have v2 := cr.out.1.2.2
      go_wp2_with fail
      refine bodyPost_ret (by simp [results, Tryz.results77, go_sem, v0, v1, v2]; try rfl) rfl ?_
      exact ⟨rfl, Bq.out⟩
    · have he : medT L = ⟨1, mid (L.getD (h - 1) 0) (L.getD h 0), no⟩ := by unfold medT; rw [if_neg c0, if_neg c1, hh]
      rw [he]
      have t1 : ((L.length : Nat) : Int).tmod 2 = 0 := by rw [show ((L.length : Nat) : Int).tmod 2 = ((L.length % 2 : Nat) : Int) from rfl, show L.length % 2 = 0 from by omega]; rfl
      obtain ⟨j, hj⟩ : ∃ j, h = j + 1 := ⟨h - 1, by omega⟩
      rw [show h - 1 = j from by omega]
      have hj1 : (h : Int) - 1 = (j : Int) := by omega
      have q1 : (j : Int) < (L.length : Int) := by omega
      have h2 : (1 : Int) ≤ (h : Int) := by omega
      have a1 := hc j _ (getD_at (by omega))
      have bl := hbd (L.getD j 0) (List.mem_of_getElem? (getD_at (by omega)))
      have bu := hbd (L.getD h 0) (List.mem_of_getElem? (getD_at (by omega)))
      have HM := middle_c (L.getD j 0) (L.getD h 0) bl.1 bl.2 bu.1 bu.2
      generalize L.getD j 0 = x at *
      generalize L.getD h 0 = y at *
      have HN := fnum_is (mid x y)
      generalize mid x y = z at *
      generalize L.length = n at *
      clear hc hr hbd he hl c0 c1 bl bu hj
      go_enter Tryz.func77, Tryz.ntmps77
      go_upto_region 6 with fail
      replace a0 := cell_regrown a0
      replace a1 := cell_regrown a1
      have kq0 := fun d' os => Calls.regrown_of (HM.out (grow (redrawn (w.alloc (vO 0 0 no)) d') os))
      refine quiet_tail 10 (by kernel_rfl) (by kernel_rfl) ?_
      simp only [List.take_succ_cons, List.take_zero, List.drop_succ_cons, List.drop_zero]
      repeat (go_big_quiet_step (first | (with_reducible exact kq0 _ _)))
      refine wpQuiet_nil ?_
      intro wq hwq
      have hbq : Hid (Below (w.alloc (vO 0 0 no)).heap.size (w.alloc (vO 0 0 no)) wq) := hide (by obtain ⟨⟨dq, osq⟩, hq⟩ := hwq; rw [hq]; exact below_regrown _ dq osq)
      clear hwq a0 a1 kq0
      have K2 := hide (next K1.out hbq.out)
      have c9 := hide ((O3.new w (.int .i64 0) (.int .i64 0) (.string no) 28).keep hbq.out)
      go_wp2_with fail
      refine (HN.out _).mono ?_
      rintro e w1 ⟨rfl, hb1⟩
      have B1 := hide (next K2.out hb1)
      have cr := hide (c9.out.keep hb1)
      clear hb1
      have u0 := cr.out.1.1
      have u1 := cr.out.1.2.1
      have u2 := cr.out.1.2.2
      have uf := cr.out.2
      have Bq := hide (below_put3 (b := w.heap.size) B1.out (Nat.le_refl _) (.int .i64 1) (.int .i64 z) (.string no))
      replace cr := hide (cr.out.put (.int .i64 1) (.int .i64 z) (.string no))
      obtain ⟨wq, hwq⟩ : ∃ wq, put3 w1 w.heap.size (.int .i64 1) (.int .i64 z) (.string no) = wq := ⟨_, rfl⟩
      rw [hwq] at Bq cr
      unfold put3 at hwq
      have v0 := cr.out.1.1
      have v1 := cr.out.1.2.1
      have v2 := cr.out.1.2.2
      go_wp2_with fail
      refine bodyPost_ret (by simp [results, Tryz.results77, go_sem, v0, v1, v2]; try rfl) rfl ?_
      exact ⟨rfl, Bq.out⟩
end Go.Proofs.YtchphbclaapfhaaGreatDoor
