/- What package value and the reference show of a value. Proved of the Go text. -/
import Derived.Test.YtlgmcabnbmbocaaDoorSame4
namespace Go.Proofs.YtlgmcabnbmbocaaDoor
open Go.RowKit Go.Sort
set_option linter.unusedVariables false

set_option maxHeartbeats 1000000 in
theorem vshow_cycle (k i : Int) (t : ByteArray) (HM : CallIs 16 #[vV k i t, vV 4 7 no] (.bool true)) (HE : CallIs 26 #[.int .i64 7] (.string e7T)) : CallIs 9 #[vV k i t] (.string e7T) := by
  intro w
  have HF := fault_is 7
  go_enter Tryd.func9, Tryd.ntmps9
  try simp only [List.append]
  have cv := hide (O3.new w (.int .i64 k) (.int .i64 i) (.string t) 26)
  have qcv10 := cell_regrown cv.out.1.1
  have qcv11 := cell_regrown cv.out.1.2.1
  have qcv12 := cell_regrown cv.out.1.2.2
  have k10 := fun d' os => Calls.regrown_of (HF.out (grow (redrawn (w.alloc (vO k i t)) d') os))
  have k11 := fun d' os => Calls.regrown_of (HM.out (grow (redrawn (w.alloc (vO k i t)) d') os))
  go_wp2_with fail
  refine wp_region_quiet_below (by kernel_rfl) (by kernel_rfl) ?_
  repeat (go_big_quiet_step (first | (with_reducible exact k10 _ _) | (with_reducible exact k11 _ _)))
  refine wpQuiet_nil ?_
  intro w1 hw1
  have hb1 : Below ((w.alloc (vO k i t))).heap.size (w.alloc (vO k i t)) w1 := by obtain ⟨⟨dq, osq⟩, hq⟩ := hw1; rw [hq]; exact below_regrown _ dq osq
  clear hw1 qcv10 qcv11 qcv12 k10 k11
  have B1 := hide (next (step (Below.refl w.heap.size w) _) hb1)
  replace cv := hide (cv.out.keep hb1)
  go_wp2_with fail
  refine (HE.out _).mono ?_
  rintro e w2 ⟨rfl, hb2⟩
  have B2 := hide (next (B1.out) hb2)
  replace cv := hide (cv.out.keep hb2)
  go_wp2_with fail
  go_ret
  exact ⟨rfl, B2.out⟩
set_option maxHeartbeats 1000000 in
theorem vshow_txt (k i : Int) (t : ByteArray) (s : ByteArray) (HM : CallIs 16 #[vV k i t, vV 4 7 no] (.bool false)) (HA : CallT 11 #[vV k i t] (.tuple #[.string s, .int .i64 0])) : CallT 9 #[vV k i t] (.string s) := by
  intro w ht
  have HT := hide ht
  clear ht
  have HF := fault_is 7
  go_enter Tryd.func9, Tryd.ntmps9
  try simp only [List.append]
  have cv := hide (O3.new w (.int .i64 k) (.int .i64 i) (.string t) 26)
  have qcv10 := cell_regrown cv.out.1.1
  have qcv11 := cell_regrown cv.out.1.2.1
  have qcv12 := cell_regrown cv.out.1.2.2
  have k10 := fun d' os => Calls.regrown_of (HF.out (grow (redrawn (w.alloc (vO k i t)) d') os))
  have k11 := fun d' os => Calls.regrown_of (HM.out (grow (redrawn (w.alloc (vO k i t)) d') os))
  go_wp2_with fail
  refine wp_region_quiet_below (by kernel_rfl) (by kernel_rfl) ?_
  repeat (go_big_quiet_step (first | (with_reducible exact k10 _ _) | (with_reducible exact k11 _ _)))
  refine wpQuiet_nil ?_
  intro w1 hw1
  have hb1 : Below ((w.alloc (vO k i t))).heap.size (w.alloc (vO k i t)) w1 := by obtain ⟨⟨dq, osq⟩, hq⟩ := hw1; rw [hq]; exact below_regrown _ dq osq
  clear hw1 qcv10 qcv11 qcv12 k10 k11
  have B1 := hide (next (step (Below.refl w.heap.size w) _) hb1)
  replace cv := hide (cv.out.keep hb1)
  have cvw100 := cv.out.1.1
  have cvw101 := cv.out.1.2.1
  have cvw102 := cv.out.1.2.2
  go_wp2_with fail
  refine (HA.out _ (tab_below HT.out (B1.out))).mono ?_
  rintro e w2 ⟨rfl, hb2⟩
  clear cvw100
  clear cvw101
  clear cvw102
  have B2 := hide (next (B1.out) hb2)
  replace cv := hide (cv.out.keep hb2)
  go_wp2_with fail
  go_ret
  exact ⟨rfl, B2.out⟩
set_option maxHeartbeats 1000000 in
theorem vshow_err (k i : Int) (t : ByteArray) (s s2 : ByteArray) (x : Int) (hx : (x != 0) = true) (HM : CallIs 16 #[vV k i t, vV 4 7 no] (.bool false)) (HA : CallIs 11 #[vV k i t] (.tuple #[.string s, .int .i64 x])) (HE : CallIs 26 #[.int .i64 x] (.string s2)) : CallIs 9 #[vV k i t] (.string s2) := by
  intro w
  have HF := fault_is 7
  go_enter Tryd.func9, Tryd.ntmps9
  try simp only [List.append]
  have cv := hide (O3.new w (.int .i64 k) (.int .i64 i) (.string t) 26)
  have qcv10 := cell_regrown cv.out.1.1
  have qcv11 := cell_regrown cv.out.1.2.1
  have qcv12 := cell_regrown cv.out.1.2.2
  have k10 := fun d' os => Calls.regrown_of (HF.out (grow (redrawn (w.alloc (vO k i t)) d') os))
  have k11 := fun d' os => Calls.regrown_of (HM.out (grow (redrawn (w.alloc (vO k i t)) d') os))
  go_wp2_with fail
  refine wp_region_quiet_below (by kernel_rfl) (by kernel_rfl) ?_
  repeat (go_big_quiet_step (first | (with_reducible exact k10 _ _) | (with_reducible exact k11 _ _)))
  refine wpQuiet_nil ?_
  intro w1 hw1
  have hb1 : Below ((w.alloc (vO k i t))).heap.size (w.alloc (vO k i t)) w1 := by obtain ⟨⟨dq, osq⟩, hq⟩ := hw1; rw [hq]; exact below_regrown _ dq osq
  clear hw1 qcv10 qcv11 qcv12 k10 k11
  have B1 := hide (next (step (Below.refl w.heap.size w) _) hb1)
  replace cv := hide (cv.out.keep hb1)
  have cvw100 := cv.out.1.1
  have cvw101 := cv.out.1.2.1
  have cvw102 := cv.out.1.2.2
  go_wp2_with fail
  refine (HA.out _).mono ?_
  rintro e w2 ⟨rfl, hb2⟩
  clear cvw100
  clear cvw101
  clear cvw102
  have B2 := hide (next (B1.out) hb2)
  replace cv := hide (cv.out.keep hb2)
  go_wp2_with fail
  refine (HE.out _).mono ?_
  rintro e w3 ⟨rfl, hb3⟩
  have B3 := hide (next (B2.out) hb3)
  replace cv := hide (cv.out.keep hb3)
  go_wp2_with fail
  go_ret
  exact ⟨rfl, B3.out⟩
set_option maxHeartbeats 1000000 in
theorem rshow_cycle  : CallIs 23 #[vV 4 7 no] (.string e7T) := by
  intro w
  have HF := rerr_is 7
  have HO := hide errors_is
  go_enter Tryd.func23, Tryd.ntmps23
  try simp only [List.append]
  have cv := hide (O3.new w (.int .i64 4) (.int .i64 7) (.string no) 26)
  have qcv10 := cell_regrown cv.out.1.1
  have qcv11 := cell_regrown cv.out.1.2.1
  have qcv12 := cell_regrown cv.out.1.2.2
  have k10 := fun d' os => Calls.regrown_of (HF.out (grow (redrawn (w.alloc (vO 4 7 no)) d') os))
  go_wp2_with fail
  refine wp_region_quiet_below (by kernel_rfl) (by kernel_rfl) ?_
  repeat (go_big_quiet_step (first | (with_reducible exact k10 _ _)))
  refine wpQuiet_nil ?_
  intro w1 hw1
  have hb1 : Below ((w.alloc (vO 4 7 no))).heap.size (w.alloc (vO 4 7 no)) w1 := by obtain ⟨⟨dq, osq⟩, hq⟩ := hw1; rw [hq]; exact below_regrown _ dq osq
  clear hw1 qcv10 qcv11 qcv12 k10
  have B1 := hide (next (step (Below.refl w.heap.size w) _) hb1)
  replace cv := hide (cv.out.keep hb1)
  go_wp2_with fail
  refine (HO.out _).mono ?_
  rintro e w' ⟨rfl, rfl⟩
  go_wp2_with fail
  go_ret
  exact ⟨rfl, step (B1.out) _⟩
set_option maxHeartbeats 1000000 in
theorem rshow_txt_k (k i : Int) (t : ByteArray) (s : ByteArray) (h : (k == 4) = false) (HA : CallIs 20 #[vV k i t] (.tuple #[.string s, .int .i64 0])) : CallIs 23 #[vV k i t] (.string s) := by
  intro w
  have HF := rerr_is 7
  have HO := hide errors_is
  go_enter Tryd.func23, Tryd.ntmps23
  try simp only [List.append]
  have cv := hide (O3.new w (.int .i64 k) (.int .i64 i) (.string t) 26)
  have qcv10 := cell_regrown cv.out.1.1
  have qcv11 := cell_regrown cv.out.1.2.1
  have qcv12 := cell_regrown cv.out.1.2.2
  have k10 := fun d' os => Calls.regrown_of (HF.out (grow (redrawn (w.alloc (vO k i t)) d') os))
  go_wp2_with fail
  refine wp_region_quiet_below (by kernel_rfl) (by kernel_rfl) ?_
  repeat (go_big_quiet_step (first | (with_reducible exact k10 _ _)))
  refine wpQuiet_nil ?_
  intro w1 hw1
  have hb1 : Below ((w.alloc (vO k i t))).heap.size (w.alloc (vO k i t)) w1 := by obtain ⟨⟨dq, osq⟩, hq⟩ := hw1; rw [hq]; exact below_regrown _ dq osq
  clear hw1 qcv10 qcv11 qcv12 k10
  have B1 := hide (next (step (Below.refl w.heap.size w) _) hb1)
  replace cv := hide (cv.out.keep hb1)
  have cvw100 := cv.out.1.1
  have cvw101 := cv.out.1.2.1
  have cvw102 := cv.out.1.2.2
  go_wp2_with fail
  refine (HA.out _).mono ?_
  rintro e w2 ⟨rfl, hb2⟩
  clear cvw100
  clear cvw101
  clear cvw102
  have B2 := hide (next (B1.out) hb2)
  replace cv := hide (cv.out.keep hb2)
  go_wp2_with fail
  go_ret
  exact ⟨rfl, B2.out⟩
set_option maxHeartbeats 1000000 in
theorem rshow_e1_k (k i : Int) (t : ByteArray) (s : ByteArray) (h : (k == 4) = false) (HA : CallIs 20 #[vV k i t] (.tuple #[.string s, .int .i64 1])) : CallIs 23 #[vV k i t] (.string e1T) := by
  intro w
  have HF := rerr_is 7
  have HO := hide errors_is
  go_enter Tryd.func23, Tryd.ntmps23
  try simp only [List.append]
  have cv := hide (O3.new w (.int .i64 k) (.int .i64 i) (.string t) 26)
  have qcv10 := cell_regrown cv.out.1.1
  have qcv11 := cell_regrown cv.out.1.2.1
  have qcv12 := cell_regrown cv.out.1.2.2
  have k10 := fun d' os => Calls.regrown_of (HF.out (grow (redrawn (w.alloc (vO k i t)) d') os))
  go_wp2_with fail
  refine wp_region_quiet_below (by kernel_rfl) (by kernel_rfl) ?_
  repeat (go_big_quiet_step (first | (with_reducible exact k10 _ _)))
  refine wpQuiet_nil ?_
  intro w1 hw1
  have hb1 : Below ((w.alloc (vO k i t))).heap.size (w.alloc (vO k i t)) w1 := by obtain ⟨⟨dq, osq⟩, hq⟩ := hw1; rw [hq]; exact below_regrown _ dq osq
  clear hw1 qcv10 qcv11 qcv12 k10
  have B1 := hide (next (step (Below.refl w.heap.size w) _) hb1)
  replace cv := hide (cv.out.keep hb1)
  have cvw100 := cv.out.1.1
  have cvw101 := cv.out.1.2.1
  have cvw102 := cv.out.1.2.2
  go_wp2_with fail
  refine (HA.out _).mono ?_
  rintro e w2 ⟨rfl, hb2⟩
  clear cvw100
  clear cvw101
  clear cvw102
  have B2 := hide (next (B1.out) hb2)
  replace cv := hide (cv.out.keep hb2)
  go_wp2_with fail
  refine (HO.out _).mono ?_
  rintro e w' ⟨rfl, rfl⟩
  go_wp2_with fail
  go_ret
  exact ⟨rfl, step (B2.out) _⟩
set_option maxHeartbeats 1000000 in
theorem rshow_e2_k (k i : Int) (t : ByteArray) (s : ByteArray) (h : (k == 4) = false) (HA : CallIs 20 #[vV k i t] (.tuple #[.string s, .int .i64 2])) : CallIs 23 #[vV k i t] (.string e2T) := by
  intro w
  have HF := rerr_is 7
  have HO := hide errors_is
  go_enter Tryd.func23, Tryd.ntmps23
  try simp only [List.append]
  have cv := hide (O3.new w (.int .i64 k) (.int .i64 i) (.string t) 26)
  have qcv10 := cell_regrown cv.out.1.1
  have qcv11 := cell_regrown cv.out.1.2.1
  have qcv12 := cell_regrown cv.out.1.2.2
  have k10 := fun d' os => Calls.regrown_of (HF.out (grow (redrawn (w.alloc (vO k i t)) d') os))
  go_wp2_with fail
  refine wp_region_quiet_below (by kernel_rfl) (by kernel_rfl) ?_
  repeat (go_big_quiet_step (first | (with_reducible exact k10 _ _)))
  refine wpQuiet_nil ?_
  intro w1 hw1
  have hb1 : Below ((w.alloc (vO k i t))).heap.size (w.alloc (vO k i t)) w1 := by obtain ⟨⟨dq, osq⟩, hq⟩ := hw1; rw [hq]; exact below_regrown _ dq osq
  clear hw1 qcv10 qcv11 qcv12 k10
  have B1 := hide (next (step (Below.refl w.heap.size w) _) hb1)
  replace cv := hide (cv.out.keep hb1)
  have cvw100 := cv.out.1.1
  have cvw101 := cv.out.1.2.1
  have cvw102 := cv.out.1.2.2
  go_wp2_with fail
  refine (HA.out _).mono ?_
  rintro e w2 ⟨rfl, hb2⟩
  clear cvw100
  clear cvw101
  clear cvw102
  have B2 := hide (next (B1.out) hb2)
  replace cv := hide (cv.out.keep hb2)
  go_wp2_with fail
  refine (HO.out _).mono ?_
  rintro e w' ⟨rfl, rfl⟩
  go_wp2_with fail
  go_ret
  exact ⟨rfl, step (B2.out) _⟩
set_option maxHeartbeats 1000000 in
theorem rshow_e3_k (k i : Int) (t : ByteArray) (s : ByteArray) (h : (k == 4) = false) (HA : CallIs 20 #[vV k i t] (.tuple #[.string s, .int .i64 3])) : CallIs 23 #[vV k i t] (.string e3T) := by
  intro w
  have HF := rerr_is 7
  have HO := hide errors_is
  go_enter Tryd.func23, Tryd.ntmps23
  try simp only [List.append]
  have cv := hide (O3.new w (.int .i64 k) (.int .i64 i) (.string t) 26)
  have qcv10 := cell_regrown cv.out.1.1
  have qcv11 := cell_regrown cv.out.1.2.1
  have qcv12 := cell_regrown cv.out.1.2.2
  have k10 := fun d' os => Calls.regrown_of (HF.out (grow (redrawn (w.alloc (vO k i t)) d') os))
  go_wp2_with fail
  refine wp_region_quiet_below (by kernel_rfl) (by kernel_rfl) ?_
  repeat (go_big_quiet_step (first | (with_reducible exact k10 _ _)))
  refine wpQuiet_nil ?_
  intro w1 hw1
  have hb1 : Below ((w.alloc (vO k i t))).heap.size (w.alloc (vO k i t)) w1 := by obtain ⟨⟨dq, osq⟩, hq⟩ := hw1; rw [hq]; exact below_regrown _ dq osq
  clear hw1 qcv10 qcv11 qcv12 k10
  have B1 := hide (next (step (Below.refl w.heap.size w) _) hb1)
  replace cv := hide (cv.out.keep hb1)
  have cvw100 := cv.out.1.1
  have cvw101 := cv.out.1.2.1
  have cvw102 := cv.out.1.2.2
  go_wp2_with fail
  refine (HA.out _).mono ?_
  rintro e w2 ⟨rfl, hb2⟩
  clear cvw100
  clear cvw101
  clear cvw102
  have B2 := hide (next (B1.out) hb2)
  replace cv := hide (cv.out.keep hb2)
  go_wp2_with fail
  refine (HO.out _).mono ?_
  rintro e w' ⟨rfl, rfl⟩
  go_wp2_with fail
  go_ret
  exact ⟨rfl, step (B2.out) _⟩
set_option maxHeartbeats 1000000 in
theorem rshow_e4_k (k i : Int) (t : ByteArray) (s : ByteArray) (h : (k == 4) = false) (HA : CallIs 20 #[vV k i t] (.tuple #[.string s, .int .i64 4])) : CallIs 23 #[vV k i t] (.string e4T) := by
  intro w
  have HF := rerr_is 7
  have HO := hide errors_is
  go_enter Tryd.func23, Tryd.ntmps23
  try simp only [List.append]
  have cv := hide (O3.new w (.int .i64 k) (.int .i64 i) (.string t) 26)
  have qcv10 := cell_regrown cv.out.1.1
  have qcv11 := cell_regrown cv.out.1.2.1
  have qcv12 := cell_regrown cv.out.1.2.2
  have k10 := fun d' os => Calls.regrown_of (HF.out (grow (redrawn (w.alloc (vO k i t)) d') os))
  go_wp2_with fail
  refine wp_region_quiet_below (by kernel_rfl) (by kernel_rfl) ?_
  repeat (go_big_quiet_step (first | (with_reducible exact k10 _ _)))
  refine wpQuiet_nil ?_
  intro w1 hw1
  have hb1 : Below ((w.alloc (vO k i t))).heap.size (w.alloc (vO k i t)) w1 := by obtain ⟨⟨dq, osq⟩, hq⟩ := hw1; rw [hq]; exact below_regrown _ dq osq
  clear hw1 qcv10 qcv11 qcv12 k10
  have B1 := hide (next (step (Below.refl w.heap.size w) _) hb1)
  replace cv := hide (cv.out.keep hb1)
  have cvw100 := cv.out.1.1
  have cvw101 := cv.out.1.2.1
  have cvw102 := cv.out.1.2.2
  go_wp2_with fail
  refine (HA.out _).mono ?_
  rintro e w2 ⟨rfl, hb2⟩
  clear cvw100
  clear cvw101
  clear cvw102
  have B2 := hide (next (B1.out) hb2)
  replace cv := hide (cv.out.keep hb2)
  go_wp2_with fail
  refine (HO.out _).mono ?_
  rintro e w' ⟨rfl, rfl⟩
  go_wp2_with fail
  go_ret
  exact ⟨rfl, step (B2.out) _⟩
set_option maxHeartbeats 1000000 in
theorem rshow_e5_k (k i : Int) (t : ByteArray) (s : ByteArray) (h : (k == 4) = false) (HA : CallIs 20 #[vV k i t] (.tuple #[.string s, .int .i64 5])) : CallIs 23 #[vV k i t] (.string e5T) := by
  intro w
  have HF := rerr_is 7
  have HO := hide errors_is
  go_enter Tryd.func23, Tryd.ntmps23
  try simp only [List.append]
  have cv := hide (O3.new w (.int .i64 k) (.int .i64 i) (.string t) 26)
  have qcv10 := cell_regrown cv.out.1.1
  have qcv11 := cell_regrown cv.out.1.2.1
  have qcv12 := cell_regrown cv.out.1.2.2
  have k10 := fun d' os => Calls.regrown_of (HF.out (grow (redrawn (w.alloc (vO k i t)) d') os))
  go_wp2_with fail
  refine wp_region_quiet_below (by kernel_rfl) (by kernel_rfl) ?_
  repeat (go_big_quiet_step (first | (with_reducible exact k10 _ _)))
  refine wpQuiet_nil ?_
  intro w1 hw1
  have hb1 : Below ((w.alloc (vO k i t))).heap.size (w.alloc (vO k i t)) w1 := by obtain ⟨⟨dq, osq⟩, hq⟩ := hw1; rw [hq]; exact below_regrown _ dq osq
  clear hw1 qcv10 qcv11 qcv12 k10
  have B1 := hide (next (step (Below.refl w.heap.size w) _) hb1)
  replace cv := hide (cv.out.keep hb1)
  have cvw100 := cv.out.1.1
  have cvw101 := cv.out.1.2.1
  have cvw102 := cv.out.1.2.2
  go_wp2_with fail
  refine (HA.out _).mono ?_
  rintro e w2 ⟨rfl, hb2⟩
  clear cvw100
  clear cvw101
  clear cvw102
  have B2 := hide (next (B1.out) hb2)
  replace cv := hide (cv.out.keep hb2)
  go_wp2_with fail
  refine (HO.out _).mono ?_
  rintro e w' ⟨rfl, rfl⟩
  go_wp2_with fail
  go_ret
  exact ⟨rfl, step (B2.out) _⟩
set_option maxHeartbeats 1000000 in
theorem rshow_e6_k (k i : Int) (t : ByteArray) (s : ByteArray) (h : (k == 4) = false) (HA : CallIs 20 #[vV k i t] (.tuple #[.string s, .int .i64 6])) : CallIs 23 #[vV k i t] (.string e6T) := by
  intro w
  have HF := rerr_is 7
  have HO := hide errors_is
  go_enter Tryd.func23, Tryd.ntmps23
  try simp only [List.append]
  have cv := hide (O3.new w (.int .i64 k) (.int .i64 i) (.string t) 26)
  have qcv10 := cell_regrown cv.out.1.1
  have qcv11 := cell_regrown cv.out.1.2.1
  have qcv12 := cell_regrown cv.out.1.2.2
  have k10 := fun d' os => Calls.regrown_of (HF.out (grow (redrawn (w.alloc (vO k i t)) d') os))
  go_wp2_with fail
  refine wp_region_quiet_below (by kernel_rfl) (by kernel_rfl) ?_
  repeat (go_big_quiet_step (first | (with_reducible exact k10 _ _)))
  refine wpQuiet_nil ?_
  intro w1 hw1
  have hb1 : Below ((w.alloc (vO k i t))).heap.size (w.alloc (vO k i t)) w1 := by obtain ⟨⟨dq, osq⟩, hq⟩ := hw1; rw [hq]; exact below_regrown _ dq osq
  clear hw1 qcv10 qcv11 qcv12 k10
  have B1 := hide (next (step (Below.refl w.heap.size w) _) hb1)
  replace cv := hide (cv.out.keep hb1)
  have cvw100 := cv.out.1.1
  have cvw101 := cv.out.1.2.1
  have cvw102 := cv.out.1.2.2
  go_wp2_with fail
  refine (HA.out _).mono ?_
  rintro e w2 ⟨rfl, hb2⟩
  clear cvw100
  clear cvw101
  clear cvw102
  have B2 := hide (next (B1.out) hb2)
  replace cv := hide (cv.out.keep hb2)
  go_wp2_with fail
  refine (HO.out _).mono ?_
  rintro e w' ⟨rfl, rfl⟩
  go_wp2_with fail
  go_ret
  exact ⟨rfl, step (B2.out) _⟩
set_option maxHeartbeats 1000000 in
theorem rshow_txt_i (i : Int) (t : ByteArray) (s : ByteArray) (h : (i == 7) = false) (HA : CallIs 20 #[vV 4 i t] (.tuple #[.string s, .int .i64 0])) : CallIs 23 #[vV 4 i t] (.string s) := by
  intro w
  have HF := rerr_is 7
  have HO := hide errors_is
  go_enter Tryd.func23, Tryd.ntmps23
  try simp only [List.append]
  have cv := hide (O3.new w (.int .i64 4) (.int .i64 i) (.string t) 26)
  have qcv10 := cell_regrown cv.out.1.1
  have qcv11 := cell_regrown cv.out.1.2.1
  have qcv12 := cell_regrown cv.out.1.2.2
  have k10 := fun d' os => Calls.regrown_of (HF.out (grow (redrawn (w.alloc (vO 4 i t)) d') os))
  go_wp2_with fail
  refine wp_region_quiet_below (by kernel_rfl) (by kernel_rfl) ?_
  repeat (go_big_quiet_step (first | (with_reducible exact k10 _ _)))
  refine wpQuiet_nil ?_
  intro w1 hw1
  have hb1 : Below ((w.alloc (vO 4 i t))).heap.size (w.alloc (vO 4 i t)) w1 := by obtain ⟨⟨dq, osq⟩, hq⟩ := hw1; rw [hq]; exact below_regrown _ dq osq
  clear hw1 qcv10 qcv11 qcv12 k10
  have B1 := hide (next (step (Below.refl w.heap.size w) _) hb1)
  replace cv := hide (cv.out.keep hb1)
  have cvw100 := cv.out.1.1
  have cvw101 := cv.out.1.2.1
  have cvw102 := cv.out.1.2.2
  go_wp2_with fail
  refine (HA.out _).mono ?_
  rintro e w2 ⟨rfl, hb2⟩
  clear cvw100
  clear cvw101
  clear cvw102
  have B2 := hide (next (B1.out) hb2)
  replace cv := hide (cv.out.keep hb2)
  go_wp2_with fail
  go_ret
  exact ⟨rfl, B2.out⟩
set_option maxHeartbeats 1000000 in
theorem rshow_e1_i (i : Int) (t : ByteArray) (s : ByteArray) (h : (i == 7) = false) (HA : CallIs 20 #[vV 4 i t] (.tuple #[.string s, .int .i64 1])) : CallIs 23 #[vV 4 i t] (.string e1T) := by
  intro w
  have HF := rerr_is 7
  have HO := hide errors_is
  go_enter Tryd.func23, Tryd.ntmps23
  try simp only [List.append]
  have cv := hide (O3.new w (.int .i64 4) (.int .i64 i) (.string t) 26)
  have qcv10 := cell_regrown cv.out.1.1
  have qcv11 := cell_regrown cv.out.1.2.1
  have qcv12 := cell_regrown cv.out.1.2.2
  have k10 := fun d' os => Calls.regrown_of (HF.out (grow (redrawn (w.alloc (vO 4 i t)) d') os))
  go_wp2_with fail
  refine wp_region_quiet_below (by kernel_rfl) (by kernel_rfl) ?_
  repeat (go_big_quiet_step (first | (with_reducible exact k10 _ _)))
  refine wpQuiet_nil ?_
  intro w1 hw1
  have hb1 : Below ((w.alloc (vO 4 i t))).heap.size (w.alloc (vO 4 i t)) w1 := by obtain ⟨⟨dq, osq⟩, hq⟩ := hw1; rw [hq]; exact below_regrown _ dq osq
  clear hw1 qcv10 qcv11 qcv12 k10
  have B1 := hide (next (step (Below.refl w.heap.size w) _) hb1)
  replace cv := hide (cv.out.keep hb1)
  have cvw100 := cv.out.1.1
  have cvw101 := cv.out.1.2.1
  have cvw102 := cv.out.1.2.2
  go_wp2_with fail
  refine (HA.out _).mono ?_
  rintro e w2 ⟨rfl, hb2⟩
  clear cvw100
  clear cvw101
  clear cvw102
  have B2 := hide (next (B1.out) hb2)
  replace cv := hide (cv.out.keep hb2)
  go_wp2_with fail
  refine (HO.out _).mono ?_
  rintro e w' ⟨rfl, rfl⟩
  go_wp2_with fail
  go_ret
  exact ⟨rfl, step (B2.out) _⟩
set_option maxHeartbeats 1000000 in
theorem rshow_e2_i (i : Int) (t : ByteArray) (s : ByteArray) (h : (i == 7) = false) (HA : CallIs 20 #[vV 4 i t] (.tuple #[.string s, .int .i64 2])) : CallIs 23 #[vV 4 i t] (.string e2T) := by
  intro w
  have HF := rerr_is 7
  have HO := hide errors_is
  go_enter Tryd.func23, Tryd.ntmps23
  try simp only [List.append]
  have cv := hide (O3.new w (.int .i64 4) (.int .i64 i) (.string t) 26)
  have qcv10 := cell_regrown cv.out.1.1
  have qcv11 := cell_regrown cv.out.1.2.1
  have qcv12 := cell_regrown cv.out.1.2.2
  have k10 := fun d' os => Calls.regrown_of (HF.out (grow (redrawn (w.alloc (vO 4 i t)) d') os))
  go_wp2_with fail
  refine wp_region_quiet_below (by kernel_rfl) (by kernel_rfl) ?_
  repeat (go_big_quiet_step (first | (with_reducible exact k10 _ _)))
  refine wpQuiet_nil ?_
  intro w1 hw1
  have hb1 : Below ((w.alloc (vO 4 i t))).heap.size (w.alloc (vO 4 i t)) w1 := by obtain ⟨⟨dq, osq⟩, hq⟩ := hw1; rw [hq]; exact below_regrown _ dq osq
  clear hw1 qcv10 qcv11 qcv12 k10
  have B1 := hide (next (step (Below.refl w.heap.size w) _) hb1)
  replace cv := hide (cv.out.keep hb1)
  have cvw100 := cv.out.1.1
  have cvw101 := cv.out.1.2.1
  have cvw102 := cv.out.1.2.2
  go_wp2_with fail
  refine (HA.out _).mono ?_
  rintro e w2 ⟨rfl, hb2⟩
  clear cvw100
  clear cvw101
  clear cvw102
  have B2 := hide (next (B1.out) hb2)
  replace cv := hide (cv.out.keep hb2)
  go_wp2_with fail
  refine (HO.out _).mono ?_
  rintro e w' ⟨rfl, rfl⟩
  go_wp2_with fail
  go_ret
  exact ⟨rfl, step (B2.out) _⟩
set_option maxHeartbeats 1000000 in
theorem rshow_e3_i (i : Int) (t : ByteArray) (s : ByteArray) (h : (i == 7) = false) (HA : CallIs 20 #[vV 4 i t] (.tuple #[.string s, .int .i64 3])) : CallIs 23 #[vV 4 i t] (.string e3T) := by
  intro w
  have HF := rerr_is 7
  have HO := hide errors_is
  go_enter Tryd.func23, Tryd.ntmps23
  try simp only [List.append]
  have cv := hide (O3.new w (.int .i64 4) (.int .i64 i) (.string t) 26)
  have qcv10 := cell_regrown cv.out.1.1
  have qcv11 := cell_regrown cv.out.1.2.1
  have qcv12 := cell_regrown cv.out.1.2.2
  have k10 := fun d' os => Calls.regrown_of (HF.out (grow (redrawn (w.alloc (vO 4 i t)) d') os))
  go_wp2_with fail
  refine wp_region_quiet_below (by kernel_rfl) (by kernel_rfl) ?_
  repeat (go_big_quiet_step (first | (with_reducible exact k10 _ _)))
  refine wpQuiet_nil ?_
  intro w1 hw1
  have hb1 : Below ((w.alloc (vO 4 i t))).heap.size (w.alloc (vO 4 i t)) w1 := by obtain ⟨⟨dq, osq⟩, hq⟩ := hw1; rw [hq]; exact below_regrown _ dq osq
  clear hw1 qcv10 qcv11 qcv12 k10
  have B1 := hide (next (step (Below.refl w.heap.size w) _) hb1)
  replace cv := hide (cv.out.keep hb1)
  have cvw100 := cv.out.1.1
  have cvw101 := cv.out.1.2.1
  have cvw102 := cv.out.1.2.2
  go_wp2_with fail
  refine (HA.out _).mono ?_
  rintro e w2 ⟨rfl, hb2⟩
  clear cvw100
  clear cvw101
  clear cvw102
  have B2 := hide (next (B1.out) hb2)
  replace cv := hide (cv.out.keep hb2)
  go_wp2_with fail
  refine (HO.out _).mono ?_
  rintro e w' ⟨rfl, rfl⟩
  go_wp2_with fail
  go_ret
  exact ⟨rfl, step (B2.out) _⟩
set_option maxHeartbeats 1000000 in
theorem rshow_e4_i (i : Int) (t : ByteArray) (s : ByteArray) (h : (i == 7) = false) (HA : CallIs 20 #[vV 4 i t] (.tuple #[.string s, .int .i64 4])) : CallIs 23 #[vV 4 i t] (.string e4T) := by
  intro w
  have HF := rerr_is 7
  have HO := hide errors_is
  go_enter Tryd.func23, Tryd.ntmps23
  try simp only [List.append]
  have cv := hide (O3.new w (.int .i64 4) (.int .i64 i) (.string t) 26)
  have qcv10 := cell_regrown cv.out.1.1
  have qcv11 := cell_regrown cv.out.1.2.1
  have qcv12 := cell_regrown cv.out.1.2.2
  have k10 := fun d' os => Calls.regrown_of (HF.out (grow (redrawn (w.alloc (vO 4 i t)) d') os))
  go_wp2_with fail
  refine wp_region_quiet_below (by kernel_rfl) (by kernel_rfl) ?_
  repeat (go_big_quiet_step (first | (with_reducible exact k10 _ _)))
  refine wpQuiet_nil ?_
  intro w1 hw1
  have hb1 : Below ((w.alloc (vO 4 i t))).heap.size (w.alloc (vO 4 i t)) w1 := by obtain ⟨⟨dq, osq⟩, hq⟩ := hw1; rw [hq]; exact below_regrown _ dq osq
  clear hw1 qcv10 qcv11 qcv12 k10
  have B1 := hide (next (step (Below.refl w.heap.size w) _) hb1)
  replace cv := hide (cv.out.keep hb1)
  have cvw100 := cv.out.1.1
  have cvw101 := cv.out.1.2.1
  have cvw102 := cv.out.1.2.2
  go_wp2_with fail
  refine (HA.out _).mono ?_
  rintro e w2 ⟨rfl, hb2⟩
  clear cvw100
  clear cvw101
  clear cvw102
  have B2 := hide (next (B1.out) hb2)
  replace cv := hide (cv.out.keep hb2)
  go_wp2_with fail
  refine (HO.out _).mono ?_
  rintro e w' ⟨rfl, rfl⟩
  go_wp2_with fail
  go_ret
  exact ⟨rfl, step (B2.out) _⟩
set_option maxHeartbeats 1000000 in
theorem rshow_e5_i (i : Int) (t : ByteArray) (s : ByteArray) (h : (i == 7) = false) (HA : CallIs 20 #[vV 4 i t] (.tuple #[.string s, .int .i64 5])) : CallIs 23 #[vV 4 i t] (.string e5T) := by
  intro w
  have HF := rerr_is 7
  have HO := hide errors_is
  go_enter Tryd.func23, Tryd.ntmps23
  try simp only [List.append]
  have cv := hide (O3.new w (.int .i64 4) (.int .i64 i) (.string t) 26)
  have qcv10 := cell_regrown cv.out.1.1
  have qcv11 := cell_regrown cv.out.1.2.1
  have qcv12 := cell_regrown cv.out.1.2.2
  have k10 := fun d' os => Calls.regrown_of (HF.out (grow (redrawn (w.alloc (vO 4 i t)) d') os))
  go_wp2_with fail
  refine wp_region_quiet_below (by kernel_rfl) (by kernel_rfl) ?_
  repeat (go_big_quiet_step (first | (with_reducible exact k10 _ _)))
  refine wpQuiet_nil ?_
  intro w1 hw1
  have hb1 : Below ((w.alloc (vO 4 i t))).heap.size (w.alloc (vO 4 i t)) w1 := by obtain ⟨⟨dq, osq⟩, hq⟩ := hw1; rw [hq]; exact below_regrown _ dq osq
  clear hw1 qcv10 qcv11 qcv12 k10
  have B1 := hide (next (step (Below.refl w.heap.size w) _) hb1)
  replace cv := hide (cv.out.keep hb1)
  have cvw100 := cv.out.1.1
  have cvw101 := cv.out.1.2.1
  have cvw102 := cv.out.1.2.2
  go_wp2_with fail
  refine (HA.out _).mono ?_
  rintro e w2 ⟨rfl, hb2⟩
  clear cvw100
  clear cvw101
  clear cvw102
  have B2 := hide (next (B1.out) hb2)
  replace cv := hide (cv.out.keep hb2)
  go_wp2_with fail
  refine (HO.out _).mono ?_
  rintro e w' ⟨rfl, rfl⟩
  go_wp2_with fail
  go_ret
  exact ⟨rfl, step (B2.out) _⟩
set_option maxHeartbeats 1000000 in
theorem rshow_e6_i (i : Int) (t : ByteArray) (s : ByteArray) (h : (i == 7) = false) (HA : CallIs 20 #[vV 4 i t] (.tuple #[.string s, .int .i64 6])) : CallIs 23 #[vV 4 i t] (.string e6T) := by
  intro w
  have HF := rerr_is 7
  have HO := hide errors_is
  go_enter Tryd.func23, Tryd.ntmps23
  try simp only [List.append]
  have cv := hide (O3.new w (.int .i64 4) (.int .i64 i) (.string t) 26)
  have qcv10 := cell_regrown cv.out.1.1
  have qcv11 := cell_regrown cv.out.1.2.1
  have qcv12 := cell_regrown cv.out.1.2.2
  have k10 := fun d' os => Calls.regrown_of (HF.out (grow (redrawn (w.alloc (vO 4 i t)) d') os))
  go_wp2_with fail
  refine wp_region_quiet_below (by kernel_rfl) (by kernel_rfl) ?_
  repeat (go_big_quiet_step (first | (with_reducible exact k10 _ _)))
  refine wpQuiet_nil ?_
  intro w1 hw1
  have hb1 : Below ((w.alloc (vO 4 i t))).heap.size (w.alloc (vO 4 i t)) w1 := by obtain ⟨⟨dq, osq⟩, hq⟩ := hw1; rw [hq]; exact below_regrown _ dq osq
  clear hw1 qcv10 qcv11 qcv12 k10
  have B1 := hide (next (step (Below.refl w.heap.size w) _) hb1)
  replace cv := hide (cv.out.keep hb1)
  have cvw100 := cv.out.1.1
  have cvw101 := cv.out.1.2.1
  have cvw102 := cv.out.1.2.2
  go_wp2_with fail
  refine (HA.out _).mono ?_
  rintro e w2 ⟨rfl, hb2⟩
  clear cvw100
  clear cvw101
  clear cvw102
  have B2 := hide (next (B1.out) hb2)
  replace cv := hide (cv.out.keep hb2)
  go_wp2_with fail
  refine (HO.out _).mono ?_
  rintro e w' ⟨rfl, rfl⟩
  go_wp2_with fail
  go_ret
  exact ⟨rfl, step (B2.out) _⟩
set_option maxHeartbeats 1000000 in
theorem rshow_txt_t (t : ByteArray) (s : ByteArray) (h : ¬ t = no) (HA : CallIs 20 #[vV 4 7 t] (.tuple #[.string s, .int .i64 0])) : CallIs 23 #[vV 4 7 t] (.string s) := by
  intro w
  have f1 := full1 h
  have f2 := full2 h
  have f3 := full3 h
  clear h
  have HF := rerr_is 7
  have HO := hide errors_is
  go_enter Tryd.func23, Tryd.ntmps23
  try simp only [List.append]
  have cv := hide (O3.new w (.int .i64 4) (.int .i64 7) (.string t) 26)
  have qcv10 := cell_regrown cv.out.1.1
  have qcv11 := cell_regrown cv.out.1.2.1
  have qcv12 := cell_regrown cv.out.1.2.2
  have k10 := fun d' os => Calls.regrown_of (HF.out (grow (redrawn (w.alloc (vO 4 7 t)) d') os))
  go_wp2_with fail
  refine wp_region_quiet_below (by kernel_rfl) (by kernel_rfl) ?_
  repeat (go_big_quiet_step (first | (with_reducible exact k10 _ _)))
  refine wpQuiet_nil ?_
  intro w1 hw1
  have hb1 : Below ((w.alloc (vO 4 7 t))).heap.size (w.alloc (vO 4 7 t)) w1 := by obtain ⟨⟨dq, osq⟩, hq⟩ := hw1; rw [hq]; exact below_regrown _ dq osq
  clear hw1 qcv10 qcv11 qcv12 k10
  have B1 := hide (next (step (Below.refl w.heap.size w) _) hb1)
  replace cv := hide (cv.out.keep hb1)
  have cvw100 := cv.out.1.1
  have cvw101 := cv.out.1.2.1
  have cvw102 := cv.out.1.2.2
  go_wp2_with fail
  refine (HA.out _).mono ?_
  rintro e w2 ⟨rfl, hb2⟩
  clear cvw100
  clear cvw101
  clear cvw102
  have B2 := hide (next (B1.out) hb2)
  replace cv := hide (cv.out.keep hb2)
  go_wp2_with fail
  go_ret
  exact ⟨rfl, B2.out⟩
set_option maxHeartbeats 1000000 in
theorem rshow_e4_t (t : ByteArray) (s : ByteArray) (h : ¬ t = no) (HA : CallIs 20 #[vV 4 7 t] (.tuple #[.string s, .int .i64 4])) : CallIs 23 #[vV 4 7 t] (.string e4T) := by
  intro w
  have f1 := full1 h
  have f2 := full2 h
  have f3 := full3 h
  clear h
  have HF := rerr_is 7
  have HO := hide errors_is
  go_enter Tryd.func23, Tryd.ntmps23
  try simp only [List.append]
  have cv := hide (O3.new w (.int .i64 4) (.int .i64 7) (.string t) 26)
  have qcv10 := cell_regrown cv.out.1.1
  have qcv11 := cell_regrown cv.out.1.2.1
  have qcv12 := cell_regrown cv.out.1.2.2
  have k10 := fun d' os => Calls.regrown_of (HF.out (grow (redrawn (w.alloc (vO 4 7 t)) d') os))
  go_wp2_with fail
  refine wp_region_quiet_below (by kernel_rfl) (by kernel_rfl) ?_
  repeat (go_big_quiet_step (first | (with_reducible exact k10 _ _)))
  refine wpQuiet_nil ?_
  intro w1 hw1
  have hb1 : Below ((w.alloc (vO 4 7 t))).heap.size (w.alloc (vO 4 7 t)) w1 := by obtain ⟨⟨dq, osq⟩, hq⟩ := hw1; rw [hq]; exact below_regrown _ dq osq
  clear hw1 qcv10 qcv11 qcv12 k10
  have B1 := hide (next (step (Below.refl w.heap.size w) _) hb1)
  replace cv := hide (cv.out.keep hb1)
  have cvw100 := cv.out.1.1
  have cvw101 := cv.out.1.2.1
  have cvw102 := cv.out.1.2.2
  go_wp2_with fail
  refine (HA.out _).mono ?_
  rintro e w2 ⟨rfl, hb2⟩
  clear cvw100
  clear cvw101
  clear cvw102
  have B2 := hide (next (B1.out) hb2)
  replace cv := hide (cv.out.keep hb2)
  go_wp2_with fail
  refine (HO.out _).mono ?_
  rintro e w' ⟨rfl, rfl⟩
  go_wp2_with fail
  go_ret
  exact ⟨rfl, step (B2.out) _⟩
end Go.Proofs.YtlgmcabnbmbocaaDoor
