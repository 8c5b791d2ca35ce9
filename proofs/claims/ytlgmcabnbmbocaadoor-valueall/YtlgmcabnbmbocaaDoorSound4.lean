/- What the small makers of values answer, and what a value is taken for that may not be: #VALUE!. Proved of the Go text. -/
import Derived.Test.YtlgmcabnbmbocaaDoorMay4
namespace Go.Proofs.YtlgmcabnbmbocaaDoor
open Go.RowKit Go.Sort
set_option linter.unusedVariables false

set_option maxHeartbeats 400000 in
theorem fault_is (e : Int) : CallIs 25 #[.int .i64 e] (vV 4 e no) := by
  intro w
  go_enter Tryd.func25, Tryd.ntmps25
  go_wp2_with fail
  go_returns
  exact ⟨rfl, by go_grown⟩
set_option maxHeartbeats 400000 in
theorem number_is (e : Int) : CallIs 47 #[.int .i64 e] (vV 1 e no) := by
  intro w
  go_enter Tryd.func47, Tryd.ntmps47
  go_wp2_with fail
  go_returns
  exact ⟨rfl, by go_grown⟩
set_option maxHeartbeats 400000 in
theorem truth_yes  : CallIs 48 #[.bool true] (vV 2 1 no) := by
  intro w
  go_enter Tryd.func48, Tryd.ntmps48
  go_wp2_with fail
  go_returns
  exact ⟨rfl, by go_grown⟩
set_option maxHeartbeats 400000 in
theorem truth_no  : CallIs 48 #[.bool false] (vV 2 0 no) := by
  intro w
  go_enter Tryd.func48, Tryd.ntmps48
  go_wp2_with fail
  go_returns
  exact ⟨rfl, by go_grown⟩
set_option maxHeartbeats 400000 in
theorem rerr_is (e : Int) : CallIs 41 #[.int .i64 e] (vV 4 e no) := by
  intro w
  go_enter Tryd.func41, Tryd.ntmps41
  go_wp2_with fail
  go_returns
  exact ⟨rfl, by go_grown⟩
set_option maxHeartbeats 400000 in
theorem rint_is (e : Int) : CallIs 44 #[.int .i64 e] (vV 1 e no) := by
  intro w
  go_enter Tryd.func44, Tryd.ntmps44
  go_wp2_with fail
  go_returns
  exact ⟨rfl, by go_grown⟩
set_option maxHeartbeats 400000 in
theorem rbool_yes  : CallIs 45 #[.bool true] (vV 2 1 no) := by
  intro w
  go_enter Tryd.func45, Tryd.ntmps45
  go_wp2_with fail
  go_returns
  exact ⟨rfl, by go_grown⟩
set_option maxHeartbeats 400000 in
theorem rbool_no  : CallIs 45 #[.bool false] (vV 2 0 no) := by
  intro w
  go_enter Tryd.func45, Tryd.ntmps45
  go_wp2_with fail
  go_returns
  exact ⟨rfl, by go_grown⟩
set_option maxHeartbeats 1000000 in
theorem sound_good {k i : Int} {t : ByteArray} (h : Good k i t) : CallIs 27 #[vV k i t] (vV k i t) := by
  intro w
  have HM := vmay_yes h
  clear h
  go_enter Tryd.func27, Tryd.ntmps27
  try simp only [List.append]
  go_wp2_with fail
  refine (HM.out _).mono ?_
  rintro e w1 ⟨rfl, hb1⟩
  have B1 := hide (next (step (step (Below.refl w.heap.size w) _) _) hb1)
  have cv := hide (((O3.new w (.int .i64 k) (.int .i64 i) (.string t) 26).alloc _).keep hb1)
  have cr := hide ((O3.new (w.alloc (vO k i t)) (.int .i64 0) (.int .i64 0) (.string no) 26).keep hb1)
  simp only [World.size_alloc] at cr
  have cvw100 := cv.out.1.1
  have cvw101 := cv.out.1.2.1
  have cvw102 := cv.out.1.2.2
  have crw100 := cr.out.1.1
  have crw101 := cr.out.1.2.1
  have crw102 := cr.out.1.2.2
  have crw10f := cr.out.2
  have B1p := hide (below_put3 (b := w.heap.size + 1) (B1.out) (by omega) (.int .i64 k) (.int .i64 i) (.string t))
  replace cv := hide (O3.other (b := w.heap.size + 1) (u0 := .int .i64 k) (u1 := .int .i64 i) (u2 := .string t) cv.out (by omega))
  replace cr := hide (cr.out.put (.int .i64 k) (.int .i64 i) (.string t))
  obtain ⟨w1p, hw1p⟩ : ∃ w1p, put3 w1 (w.heap.size + 1) (.int .i64 k) (.int .i64 i) (.string t) = w1p := ⟨_, rfl⟩
  rw [hw1p] at B1p cv cr
  unfold put3 at hw1p
  have crw1p00 := cr.out.1.1
  have crw1p01 := cr.out.1.2.1
  have crw1p02 := cr.out.1.2.2
  go_wp2_with fail
  refine bodyPost_ret (by simp [results, Tryd.results27, go_sem, crw1p00, crw1p01, crw1p02]; try rfl) rfl ?_
  exact ⟨rfl, B1p.out⟩
set_option maxHeartbeats 1000000 in
theorem sound_bad {k i : Int} {t : ByteArray} (h : ¬ Good k i t) : CallIs 27 #[vV k i t] (vV 4 4 no) := by
  intro w
  have HM := vmay_no h
  have HE := fault_is 4
  clear h
  go_enter Tryd.func27, Tryd.ntmps27
  try simp only [List.append]
  go_wp2_with fail
  refine (HM.out _).mono ?_
  rintro e w1 ⟨rfl, hb1⟩
  have B1 := hide (next (step (step (Below.refl w.heap.size w) _) _) hb1)
  have cv := hide (((O3.new w (.int .i64 k) (.int .i64 i) (.string t) 26).alloc _).keep hb1)
  have cr := hide ((O3.new (w.alloc (vO k i t)) (.int .i64 0) (.int .i64 0) (.string no) 26).keep hb1)
  simp only [World.size_alloc] at cr
  go_wp2_with fail
  refine (HE.out _).mono ?_
  rintro e w2 ⟨rfl, hb2⟩
  have B2 := hide (next (B1.out) hb2)
  replace cv := hide (cv.out.keep hb2)
  replace cr := hide (cr.out.keep hb2)
  have crw200 := cr.out.1.1
  have crw201 := cr.out.1.2.1
  have crw202 := cr.out.1.2.2
  have crw20f := cr.out.2
  have B2p := hide (below_put3 (b := w.heap.size + 1) (B2.out) (by omega) (.int .i64 4) (.int .i64 4) (.string no))
  replace cv := hide (O3.other (b := w.heap.size + 1) (u0 := .int .i64 4) (u1 := .int .i64 4) (u2 := .string no) cv.out (by omega))
  replace cr := hide (cr.out.put (.int .i64 4) (.int .i64 4) (.string no))
  obtain ⟨w2p, hw2p⟩ : ∃ w2p, put3 w2 (w.heap.size + 1) (.int .i64 4) (.int .i64 4) (.string no) = w2p := ⟨_, rfl⟩
  rw [hw2p] at B2p cv cr
  unfold put3 at hw2p
  have crw2p00 := cr.out.1.1
  have crw2p01 := cr.out.1.2.1
  have crw2p02 := cr.out.1.2.2
  go_wp2_with fail
  refine bodyPost_ret (by simp [results, Tryd.results27, go_sem, crw2p00, crw2p01, crw2p02]; try rfl) rfl ?_
  exact ⟨rfl, B2p.out⟩
set_option maxHeartbeats 1000000 in
theorem fit_good {k i : Int} {t : ByteArray} (h : Good k i t) : CallIs 37 #[vV k i t] (vV k i t) := by
  intro w
  have HM := rmay_yes h
  clear h
  go_enter Tryd.func37, Tryd.ntmps37
  try simp only [List.append]
  go_wp2_with fail
  refine (HM.out _).mono ?_
  rintro e w1 ⟨rfl, hb1⟩
  have B1 := hide (next (step (step (Below.refl w.heap.size w) _) _) hb1)
  have cv := hide (((O3.new w (.int .i64 k) (.int .i64 i) (.string t) 26).alloc _).keep hb1)
  have cr := hide ((O3.new (w.alloc (vO k i t)) (.int .i64 0) (.int .i64 0) (.string no) 26).keep hb1)
  simp only [World.size_alloc] at cr
  have cvw100 := cv.out.1.1
  have cvw101 := cv.out.1.2.1
  have cvw102 := cv.out.1.2.2
  have crw100 := cr.out.1.1
  have crw101 := cr.out.1.2.1
  have crw102 := cr.out.1.2.2
  have crw10f := cr.out.2
  have B1p := hide (below_put3 (b := w.heap.size + 1) (B1.out) (by omega) (.int .i64 k) (.int .i64 i) (.string t))
  replace cv := hide (O3.other (b := w.heap.size + 1) (u0 := .int .i64 k) (u1 := .int .i64 i) (u2 := .string t) cv.out (by omega))
  replace cr := hide (cr.out.put (.int .i64 k) (.int .i64 i) (.string t))
  obtain ⟨w1p, hw1p⟩ : ∃ w1p, put3 w1 (w.heap.size + 1) (.int .i64 k) (.int .i64 i) (.string t) = w1p := ⟨_, rfl⟩
  rw [hw1p] at B1p cv cr
  unfold put3 at hw1p
  have crw1p00 := cr.out.1.1
  have crw1p01 := cr.out.1.2.1
  have crw1p02 := cr.out.1.2.2
  go_wp2_with fail
  refine bodyPost_ret (by simp [results, Tryd.results37, go_sem, crw1p00, crw1p01, crw1p02]; try rfl) rfl ?_
  exact ⟨rfl, B1p.out⟩
set_option maxHeartbeats 1000000 in
theorem fit_bad {k i : Int} {t : ByteArray} (h : ¬ Good k i t) : CallIs 37 #[vV k i t] (vV 4 4 no) := by
  intro w
  have HM := rmay_no h
  have HE := rerr_is 4
  clear h
  go_enter Tryd.func37, Tryd.ntmps37
  try simp only [List.append]
  go_wp2_with fail
  refine (HM.out _).mono ?_
  rintro e w1 ⟨rfl, hb1⟩
  have B1 := hide (next (step (step (Below.refl w.heap.size w) _) _) hb1)
  have cv := hide (((O3.new w (.int .i64 k) (.int .i64 i) (.string t) 26).alloc _).keep hb1)
  have cr := hide ((O3.new (w.alloc (vO k i t)) (.int .i64 0) (.int .i64 0) (.string no) 26).keep hb1)
  simp only [World.size_alloc] at cr
  go_wp2_with fail
  refine (HE.out _).mono ?_
  rintro e w2 ⟨rfl, hb2⟩
  have B2 := hide (next (B1.out) hb2)
  replace cv := hide (cv.out.keep hb2)
  replace cr := hide (cr.out.keep hb2)
  have crw200 := cr.out.1.1
  have crw201 := cr.out.1.2.1
  have crw202 := cr.out.1.2.2
  have crw20f := cr.out.2
  have B2p := hide (below_put3 (b := w.heap.size + 1) (B2.out) (by omega) (.int .i64 4) (.int .i64 4) (.string no))
  replace cv := hide (O3.other (b := w.heap.size + 1) (u0 := .int .i64 4) (u1 := .int .i64 4) (u2 := .string no) cv.out (by omega))
  replace cr := hide (cr.out.put (.int .i64 4) (.int .i64 4) (.string no))
  obtain ⟨w2p, hw2p⟩ : ∃ w2p, put3 w2 (w.heap.size + 1) (.int .i64 4) (.int .i64 4) (.string no) = w2p := ⟨_, rfl⟩
  rw [hw2p] at B2p cv cr
  unfold put3 at hw2p
  have crw2p00 := cr.out.1.1
  have crw2p01 := cr.out.1.2.1
  have crw2p02 := cr.out.1.2.2
  go_wp2_with fail
  refine bodyPost_ret (by simp [results, Tryd.results37, go_sem, crw2p00, crw2p01, crw2p02]; try rfl) rfl ?_
  exact ⟨rfl, B2p.out⟩
end Go.Proofs.YtlgmcabnbmbocaaDoor
