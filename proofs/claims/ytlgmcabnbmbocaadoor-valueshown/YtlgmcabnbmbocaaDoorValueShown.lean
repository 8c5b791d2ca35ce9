/- The law ValueShown returns true for every value, and changes nothing that was there. -/
import Derived.Test.YtlgmcabnbmbocaaDoorBegun4
namespace Go.Proofs.YtlgmcabnbmbocaaDoor
open Go.RowKit Go.Sort
set_option linter.unusedVariables false

set_option maxHeartbeats 4000000 in
set_option maxRecDepth 100000 in
theorem shown_cycle  (HG : CallT 7 #[] (.bool true)) (HS : CallT 9 #[vV 4 7 no] (.string e7T)) (HM : CallIs 10 #[vV 4 7 no] (.bool false)) : CallT 4 #[vV 4 7 no] (.bool true) := by
  intro w ht
  have HT := hide ht
  clear ht
  go_enter Tryd.func4, Tryd.ntmps4
  try simp only [List.append]
  go_wp2_with fail
  refine (HG.out _ (tab_below HT.out (step (Below.refl w.heap.size w) _))).mono ?_
  rintro e w1 ⟨rfl, hb1⟩
  have B1 := hide (next (step (Below.refl w.heap.size w) _) hb1)
  have cv := hide ((O3.new w (.int .i64 4) (.int .i64 7) (.string no) 26).keep hb1)
  have cvw100 := cv.out.1.1
  have cvw101 := cv.out.1.2.1
  have cvw102 := cv.out.1.2.2
  go_wp2_with fail
  refine (HS.out _ (tab_below HT.out (B1.out))).mono ?_
  rintro e w2 ⟨rfl, hb2⟩
  clear cvw100
  clear cvw101
  clear cvw102
  have B2 := hide (next (B1.out) hb2)
  replace cv := hide (cv.out.keep hb2)
  have cvw200 := cv.out.1.1
  have cvw201 := cv.out.1.2.1
  have cvw202 := cv.out.1.2.2
  go_wp2_with fail
  refine (HM.out _).mono ?_
  rintro e w3 ⟨rfl, hb3⟩
  clear cvw200
  clear cvw201
  clear cvw202
  have B3 := hide (next (B2.out) hb3)
  replace cv := hide (cv.out.keep hb3)
  have cvw300 := cv.out.1.1
  have cvw301 := cv.out.1.2.1
  have cvw302 := cv.out.1.2.2
  go_wp2_with fail
  go_ret
  exact ⟨rfl, B3.out⟩
set_option maxHeartbeats 4000000 in
set_option maxRecDepth 100000 in
theorem shown_bad (k i : Int) (t : ByteArray) (HG : CallT 7 #[] (.bool true)) (HS : CallT 9 #[vV k i t] (.string e4T)) (HM : CallIs 10 #[vV k i t] (.bool false)) : CallT 4 #[vV k i t] (.bool true) := by
  intro w ht
  have HT := hide ht
  clear ht
  go_enter Tryd.func4, Tryd.ntmps4
  try simp only [List.append]
  go_wp2_with fail
  refine (HG.out _ (tab_below HT.out (step (Below.refl w.heap.size w) _))).mono ?_
  rintro e w1 ⟨rfl, hb1⟩
  have B1 := hide (next (step (Below.refl w.heap.size w) _) hb1)
  have cv := hide ((O3.new w (.int .i64 k) (.int .i64 i) (.string t) 26).keep hb1)
  have cvw100 := cv.out.1.1
  have cvw101 := cv.out.1.2.1
  have cvw102 := cv.out.1.2.2
  go_wp2_with fail
  refine (HS.out _ (tab_below HT.out (B1.out))).mono ?_
  rintro e w2 ⟨rfl, hb2⟩
  clear cvw100
  clear cvw101
  clear cvw102
  have B2 := hide (next (B1.out) hb2)
  replace cv := hide (cv.out.keep hb2)
  have cvw200 := cv.out.1.1
  have cvw201 := cv.out.1.2.1
  have cvw202 := cv.out.1.2.2
  go_wp2_with fail
  refine (HM.out _).mono ?_
  rintro e w3 ⟨rfl, hb3⟩
  clear cvw200
  clear cvw201
  clear cvw202
  have B3 := hide (next (B2.out) hb3)
  replace cv := hide (cv.out.keep hb3)
  have cvw300 := cv.out.1.1
  have cvw301 := cv.out.1.2.1
  have cvw302 := cv.out.1.2.2
  go_wp2_with fail
  go_ret
  exact ⟨rfl, B3.out⟩
set_option maxHeartbeats 4000000 in
set_option maxRecDepth 100000 in
theorem shown_0  (HG : CallT 7 #[] (.bool true)) (HS : CallT 9 #[vV 0 0 no] (.string no)) (HM : CallIs 10 #[vV 0 0 no] (.bool true)) (HA : CallT 11 #[vV 0 0 no] (siV no 0)) (HL : CallIs 12 #[.string no] (vbV 0 0 no true)) : CallT 4 #[vV 0 0 no] (.bool true) := by
  intro w ht
  have HT := hide ht
  clear ht
  go_enter Tryd.func4, Tryd.ntmps4
  try simp only [List.append]
  go_wp2_with fail
  refine (HG.out _ (tab_below HT.out (step (Below.refl w.heap.size w) _))).mono ?_
  rintro e w1 ⟨rfl, hb1⟩
  have B1 := hide (next (step (Below.refl w.heap.size w) _) hb1)
  have cv := hide ((O3.new w (.int .i64 0) (.int .i64 0) (.string no) 26).keep hb1)
  have cvw100 := cv.out.1.1
  have cvw101 := cv.out.1.2.1
  have cvw102 := cv.out.1.2.2
  go_wp2_with fail
  refine (HS.out _ (tab_below HT.out (B1.out))).mono ?_
  rintro e w2 ⟨rfl, hb2⟩
  clear cvw100
  clear cvw101
  clear cvw102
  have B2 := hide (next (B1.out) hb2)
  replace cv := hide (cv.out.keep hb2)
  have cvw200 := cv.out.1.1
  have cvw201 := cv.out.1.2.1
  have cvw202 := cv.out.1.2.2
  go_wp2_with fail
  refine (HM.out _).mono ?_
  rintro e w3 ⟨rfl, hb3⟩
  clear cvw200
  clear cvw201
  clear cvw202
  have B3 := hide (next (B2.out) hb3)
  replace cv := hide (cv.out.keep hb3)
  have cvw300 := cv.out.1.1
  have cvw301 := cv.out.1.2.1
  have cvw302 := cv.out.1.2.2
  go_wp2_with fail
  refine (HA.out _ (tab_below HT.out (B3.out))).mono ?_
  rintro e w4 ⟨rfl, hb4⟩
  clear cvw300
  clear cvw301
  clear cvw302
  have B4 := hide (next (B3.out) hb4)
  replace cv := hide (cv.out.keep hb4)
  have cvw400 := cv.out.1.1
  have cvw401 := cv.out.1.2.1
  have cvw402 := cv.out.1.2.2
  go_wp2_with fail
  refine (HL.out _).mono ?_
  rintro e w5 ⟨rfl, hb5⟩
  clear cvw400
  clear cvw401
  clear cvw402
  have B5 := hide (next (B4.out) hb5)
  replace cv := hide (cv.out.keep hb5)
  have cvw510 := fun o0 => (cv.out.alloc o0).1.1
  have cvw511 := fun o0 => (cv.out.alloc o0).1.2.1
  have cvw512 := fun o0 => (cv.out.alloc o0).1.2.2
  go_wp2_with fail
  go_ret
  exact ⟨rfl, step (B5.out) _⟩
set_option maxHeartbeats 4000000 in
set_option maxRecDepth 100000 in
theorem shown_1 (n : Int) (s : ByteArray) (HG : CallT 7 #[] (.bool true)) (HS : CallT 9 #[vV 1 n no] (.string s)) (HM : CallIs 10 #[vV 1 n no] (.bool true)) (HA : CallT 11 #[vV 1 n no] (siV s 0)) (HL : CallIs 12 #[.string s] (vbV 1 n no true)) : CallT 4 #[vV 1 n no] (.bool true) := by
  intro w ht
  have HT := hide ht
  clear ht
  go_enter Tryd.func4, Tryd.ntmps4
  try simp only [List.append]
  go_wp2_with fail
  refine (HG.out _ (tab_below HT.out (step (Below.refl w.heap.size w) _))).mono ?_
  rintro e w1 ⟨rfl, hb1⟩
  have B1 := hide (next (step (Below.refl w.heap.size w) _) hb1)
  have cv := hide ((O3.new w (.int .i64 1) (.int .i64 n) (.string no) 26).keep hb1)
  have cvw100 := cv.out.1.1
  have cvw101 := cv.out.1.2.1
  have cvw102 := cv.out.1.2.2
  go_wp2_with fail
  refine (HS.out _ (tab_below HT.out (B1.out))).mono ?_
  rintro e w2 ⟨rfl, hb2⟩
  clear cvw100
  clear cvw101
  clear cvw102
  have B2 := hide (next (B1.out) hb2)
  replace cv := hide (cv.out.keep hb2)
  have cvw200 := cv.out.1.1
  have cvw201 := cv.out.1.2.1
  have cvw202 := cv.out.1.2.2
  go_wp2_with fail
  refine (HM.out _).mono ?_
  rintro e w3 ⟨rfl, hb3⟩
  clear cvw200
  clear cvw201
  clear cvw202
  have B3 := hide (next (B2.out) hb3)
  replace cv := hide (cv.out.keep hb3)
  have cvw300 := cv.out.1.1
  have cvw301 := cv.out.1.2.1
  have cvw302 := cv.out.1.2.2
  go_wp2_with fail
  refine (HA.out _ (tab_below HT.out (B3.out))).mono ?_
  rintro e w4 ⟨rfl, hb4⟩
  clear cvw300
  clear cvw301
  clear cvw302
  have B4 := hide (next (B3.out) hb4)
  replace cv := hide (cv.out.keep hb4)
  have cvw400 := cv.out.1.1
  have cvw401 := cv.out.1.2.1
  have cvw402 := cv.out.1.2.2
  go_wp2_with fail
  refine (HL.out _).mono ?_
  rintro e w5 ⟨rfl, hb5⟩
  clear cvw400
  clear cvw401
  clear cvw402
  have B5 := hide (next (B4.out) hb5)
  replace cv := hide (cv.out.keep hb5)
  have cvw510 := fun o0 => (cv.out.alloc o0).1.1
  have cvw511 := fun o0 => (cv.out.alloc o0).1.2.1
  have cvw512 := fun o0 => (cv.out.alloc o0).1.2.2
  go_wp2_with fail
  go_ret
  exact ⟨rfl, step (B5.out) _⟩
set_option maxHeartbeats 4000000 in
set_option maxRecDepth 100000 in
theorem shown_20  (HG : CallT 7 #[] (.bool true)) (HS : CallT 9 #[vV 2 0 no] (.string tF)) (HM : CallIs 10 #[vV 2 0 no] (.bool true)) (HA : CallT 11 #[vV 2 0 no] (siV tF 0)) (HL : CallIs 12 #[.string tF] (vbV 2 0 no true)) : CallT 4 #[vV 2 0 no] (.bool true) := by
  intro w ht
  have HT := hide ht
  clear ht
  go_enter Tryd.func4, Tryd.ntmps4
  try simp only [List.append]
  go_wp2_with fail
  refine (HG.out _ (tab_below HT.out (step (Below.refl w.heap.size w) _))).mono ?_
  rintro e w1 ⟨rfl, hb1⟩
  have B1 := hide (next (step (Below.refl w.heap.size w) _) hb1)
  have cv := hide ((O3.new w (.int .i64 2) (.int .i64 0) (.string no) 26).keep hb1)
  have cvw100 := cv.out.1.1
  have cvw101 := cv.out.1.2.1
  have cvw102 := cv.out.1.2.2
  go_wp2_with fail
  refine (HS.out _ (tab_below HT.out (B1.out))).mono ?_
  rintro e w2 ⟨rfl, hb2⟩
  clear cvw100
  clear cvw101
  clear cvw102
  have B2 := hide (next (B1.out) hb2)
  replace cv := hide (cv.out.keep hb2)
  have cvw200 := cv.out.1.1
  have cvw201 := cv.out.1.2.1
  have cvw202 := cv.out.1.2.2
  go_wp2_with fail
  refine (HM.out _).mono ?_
  rintro e w3 ⟨rfl, hb3⟩
  clear cvw200
  clear cvw201
  clear cvw202
  have B3 := hide (next (B2.out) hb3)
  replace cv := hide (cv.out.keep hb3)
  have cvw300 := cv.out.1.1
  have cvw301 := cv.out.1.2.1
  have cvw302 := cv.out.1.2.2
  go_wp2_with fail
  refine (HA.out _ (tab_below HT.out (B3.out))).mono ?_
  rintro e w4 ⟨rfl, hb4⟩
  clear cvw300
  clear cvw301
  clear cvw302
  have B4 := hide (next (B3.out) hb4)
  replace cv := hide (cv.out.keep hb4)
  have cvw400 := cv.out.1.1
  have cvw401 := cv.out.1.2.1
  have cvw402 := cv.out.1.2.2
  go_wp2_with fail
  refine (HL.out _).mono ?_
  rintro e w5 ⟨rfl, hb5⟩
  clear cvw400
  clear cvw401
  clear cvw402
  have B5 := hide (next (B4.out) hb5)
  replace cv := hide (cv.out.keep hb5)
  have cvw510 := fun o0 => (cv.out.alloc o0).1.1
  have cvw511 := fun o0 => (cv.out.alloc o0).1.2.1
  have cvw512 := fun o0 => (cv.out.alloc o0).1.2.2
  go_wp2_with fail
  go_ret
  exact ⟨rfl, step (B5.out) _⟩
set_option maxHeartbeats 4000000 in
set_option maxRecDepth 100000 in
theorem shown_21  (HG : CallT 7 #[] (.bool true)) (HS : CallT 9 #[vV 2 1 no] (.string tT)) (HM : CallIs 10 #[vV 2 1 no] (.bool true)) (HA : CallT 11 #[vV 2 1 no] (siV tT 0)) (HL : CallIs 12 #[.string tT] (vbV 2 1 no true)) : CallT 4 #[vV 2 1 no] (.bool true) := by
  intro w ht
  have HT := hide ht
  clear ht
  go_enter Tryd.func4, Tryd.ntmps4
  try simp only [List.append]
  go_wp2_with fail
  refine (HG.out _ (tab_below HT.out (step (Below.refl w.heap.size w) _))).mono ?_
  rintro e w1 ⟨rfl, hb1⟩
  have B1 := hide (next (step (Below.refl w.heap.size w) _) hb1)
  have cv := hide ((O3.new w (.int .i64 2) (.int .i64 1) (.string no) 26).keep hb1)
  have cvw100 := cv.out.1.1
  have cvw101 := cv.out.1.2.1
  have cvw102 := cv.out.1.2.2
  go_wp2_with fail
  refine (HS.out _ (tab_below HT.out (B1.out))).mono ?_
  rintro e w2 ⟨rfl, hb2⟩
  clear cvw100
  clear cvw101
  clear cvw102
  have B2 := hide (next (B1.out) hb2)
  replace cv := hide (cv.out.keep hb2)
  have cvw200 := cv.out.1.1
  have cvw201 := cv.out.1.2.1
  have cvw202 := cv.out.1.2.2
  go_wp2_with fail
  refine (HM.out _).mono ?_
  rintro e w3 ⟨rfl, hb3⟩
  clear cvw200
  clear cvw201
  clear cvw202
  have B3 := hide (next (B2.out) hb3)
  replace cv := hide (cv.out.keep hb3)
  have cvw300 := cv.out.1.1
  have cvw301 := cv.out.1.2.1
  have cvw302 := cv.out.1.2.2
  go_wp2_with fail
  refine (HA.out _ (tab_below HT.out (B3.out))).mono ?_
  rintro e w4 ⟨rfl, hb4⟩
  clear cvw300
  clear cvw301
  clear cvw302
  have B4 := hide (next (B3.out) hb4)
  replace cv := hide (cv.out.keep hb4)
  have cvw400 := cv.out.1.1
  have cvw401 := cv.out.1.2.1
  have cvw402 := cv.out.1.2.2
  go_wp2_with fail
  refine (HL.out _).mono ?_
  rintro e w5 ⟨rfl, hb5⟩
  clear cvw400
  clear cvw401
  clear cvw402
  have B5 := hide (next (B4.out) hb5)
  replace cv := hide (cv.out.keep hb5)
  have cvw510 := fun o0 => (cv.out.alloc o0).1.1
  have cvw511 := fun o0 => (cv.out.alloc o0).1.2.1
  have cvw512 := fun o0 => (cv.out.alloc o0).1.2.2
  go_wp2_with fail
  go_ret
  exact ⟨rfl, step (B5.out) _⟩
set_option maxHeartbeats 4000000 in
set_option maxRecDepth 100000 in
theorem shown_41  (HG : CallT 7 #[] (.bool true)) (HS : CallT 9 #[vV 4 1 no] (.string e1T)) (HM : CallIs 10 #[vV 4 1 no] (.bool true)) (HA : CallT 11 #[vV 4 1 no] (siV no 1)) (HL : CallIs 12 #[.string e1T] (vbV 4 1 no true)) : CallT 4 #[vV 4 1 no] (.bool true) := by
  intro w ht
  have HT := hide ht
  clear ht
  go_enter Tryd.func4, Tryd.ntmps4
  try simp only [List.append]
  go_wp2_with fail
  refine (HG.out _ (tab_below HT.out (step (Below.refl w.heap.size w) _))).mono ?_
  rintro e w1 ⟨rfl, hb1⟩
  have B1 := hide (next (step (Below.refl w.heap.size w) _) hb1)
  have cv := hide ((O3.new w (.int .i64 4) (.int .i64 1) (.string no) 26).keep hb1)
  have cvw100 := cv.out.1.1
  have cvw101 := cv.out.1.2.1
  have cvw102 := cv.out.1.2.2
  go_wp2_with fail
  refine (HS.out _ (tab_below HT.out (B1.out))).mono ?_
  rintro e w2 ⟨rfl, hb2⟩
  clear cvw100
  clear cvw101
  clear cvw102
  have B2 := hide (next (B1.out) hb2)
  replace cv := hide (cv.out.keep hb2)
  have cvw200 := cv.out.1.1
  have cvw201 := cv.out.1.2.1
  have cvw202 := cv.out.1.2.2
  go_wp2_with fail
  refine (HM.out _).mono ?_
  rintro e w3 ⟨rfl, hb3⟩
  clear cvw200
  clear cvw201
  clear cvw202
  have B3 := hide (next (B2.out) hb3)
  replace cv := hide (cv.out.keep hb3)
  have cvw300 := cv.out.1.1
  have cvw301 := cv.out.1.2.1
  have cvw302 := cv.out.1.2.2
  go_wp2_with fail
  refine (HA.out _ (tab_below HT.out (B3.out))).mono ?_
  rintro e w4 ⟨rfl, hb4⟩
  clear cvw300
  clear cvw301
  clear cvw302
  have B4 := hide (next (B3.out) hb4)
  replace cv := hide (cv.out.keep hb4)
  have cvw400 := cv.out.1.1
  have cvw401 := cv.out.1.2.1
  have cvw402 := cv.out.1.2.2
  go_wp2_with fail
  refine (HL.out _).mono ?_
  rintro e w5 ⟨rfl, hb5⟩
  clear cvw400
  clear cvw401
  clear cvw402
  have B5 := hide (next (B4.out) hb5)
  replace cv := hide (cv.out.keep hb5)
  have cvw510 := fun o0 => (cv.out.alloc o0).1.1
  have cvw511 := fun o0 => (cv.out.alloc o0).1.2.1
  have cvw512 := fun o0 => (cv.out.alloc o0).1.2.2
  go_wp2_with fail
  go_ret
  exact ⟨rfl, step (B5.out) _⟩
set_option maxHeartbeats 4000000 in
set_option maxRecDepth 100000 in
theorem shown_42  (HG : CallT 7 #[] (.bool true)) (HS : CallT 9 #[vV 4 2 no] (.string e2T)) (HM : CallIs 10 #[vV 4 2 no] (.bool true)) (HA : CallT 11 #[vV 4 2 no] (siV no 2)) (HL : CallIs 12 #[.string e2T] (vbV 4 2 no true)) : CallT 4 #[vV 4 2 no] (.bool true) := by
  intro w ht
  have HT := hide ht
  clear ht
  go_enter Tryd.func4, Tryd.ntmps4
  try simp only [List.append]
  go_wp2_with fail
  refine (HG.out _ (tab_below HT.out (step (Below.refl w.heap.size w) _))).mono ?_
  rintro e w1 ⟨rfl, hb1⟩
  have B1 := hide (next (step (Below.refl w.heap.size w) _) hb1)
  have cv := hide ((O3.new w (.int .i64 4) (.int .i64 2) (.string no) 26).keep hb1)
  have cvw100 := cv.out.1.1
  have cvw101 := cv.out.1.2.1
  have cvw102 := cv.out.1.2.2
  go_wp2_with fail
  refine (HS.out _ (tab_below HT.out (B1.out))).mono ?_
  rintro e w2 ⟨rfl, hb2⟩
  clear cvw100
  clear cvw101
  clear cvw102
  have B2 := hide (next (B1.out) hb2)
  replace cv := hide (cv.out.keep hb2)
  have cvw200 := cv.out.1.1
  have cvw201 := cv.out.1.2.1
  have cvw202 := cv.out.1.2.2
  go_wp2_with fail
  refine (HM.out _).mono ?_
  rintro e w3 ⟨rfl, hb3⟩
  clear cvw200
  clear cvw201
  clear cvw202
  have B3 := hide (next (B2.out) hb3)
  replace cv := hide (cv.out.keep hb3)
  have cvw300 := cv.out.1.1
  have cvw301 := cv.out.1.2.1
  have cvw302 := cv.out.1.2.2
  go_wp2_with fail
  refine (HA.out _ (tab_below HT.out (B3.out))).mono ?_
  rintro e w4 ⟨rfl, hb4⟩
  clear cvw300
  clear cvw301
  clear cvw302
  have B4 := hide (next (B3.out) hb4)
  replace cv := hide (cv.out.keep hb4)
  have cvw400 := cv.out.1.1
  have cvw401 := cv.out.1.2.1
  have cvw402 := cv.out.1.2.2
  go_wp2_with fail
  refine (HL.out _).mono ?_
  rintro e w5 ⟨rfl, hb5⟩
  clear cvw400
  clear cvw401
  clear cvw402
  have B5 := hide (next (B4.out) hb5)
  replace cv := hide (cv.out.keep hb5)
  have cvw510 := fun o0 => (cv.out.alloc o0).1.1
  have cvw511 := fun o0 => (cv.out.alloc o0).1.2.1
  have cvw512 := fun o0 => (cv.out.alloc o0).1.2.2
  go_wp2_with fail
  go_ret
  exact ⟨rfl, step (B5.out) _⟩
set_option maxHeartbeats 4000000 in
set_option maxRecDepth 100000 in
theorem shown_43  (HG : CallT 7 #[] (.bool true)) (HS : CallT 9 #[vV 4 3 no] (.string e3T)) (HM : CallIs 10 #[vV 4 3 no] (.bool true)) (HA : CallT 11 #[vV 4 3 no] (siV no 3)) (HL : CallIs 12 #[.string e3T] (vbV 4 3 no true)) : CallT 4 #[vV 4 3 no] (.bool true) := by
  intro w ht
  have HT := hide ht
  clear ht
  go_enter Tryd.func4, Tryd.ntmps4
  try simp only [List.append]
  go_wp2_with fail
  refine (HG.out _ (tab_below HT.out (step (Below.refl w.heap.size w) _))).mono ?_
  rintro e w1 ⟨rfl, hb1⟩
  have B1 := hide (next (step (Below.refl w.heap.size w) _) hb1)
  have cv := hide ((O3.new w (.int .i64 4) (.int .i64 3) (.string no) 26).keep hb1)
  have cvw100 := cv.out.1.1
  have cvw101 := cv.out.1.2.1
  have cvw102 := cv.out.1.2.2
  go_wp2_with fail
  refine (HS.out _ (tab_below HT.out (B1.out))).mono ?_
  rintro e w2 ⟨rfl, hb2⟩
  clear cvw100
  clear cvw101
  clear cvw102
  have B2 := hide (next (B1.out) hb2)
  replace cv := hide (cv.out.keep hb2)
  have cvw200 := cv.out.1.1
  have cvw201 := cv.out.1.2.1
  have cvw202 := cv.out.1.2.2
  go_wp2_with fail
  refine (HM.out _).mono ?_
  rintro e w3 ⟨rfl, hb3⟩
  clear cvw200
  clear cvw201
  clear cvw202
  have B3 := hide (next (B2.out) hb3)
  replace cv := hide (cv.out.keep hb3)
  have cvw300 := cv.out.1.1
  have cvw301 := cv.out.1.2.1
  have cvw302 := cv.out.1.2.2
  go_wp2_with fail
  refine (HA.out _ (tab_below HT.out (B3.out))).mono ?_
  rintro e w4 ⟨rfl, hb4⟩
  clear cvw300
  clear cvw301
  clear cvw302
  have B4 := hide (next (B3.out) hb4)
  replace cv := hide (cv.out.keep hb4)
  have cvw400 := cv.out.1.1
  have cvw401 := cv.out.1.2.1
  have cvw402 := cv.out.1.2.2
  go_wp2_with fail
  refine (HL.out _).mono ?_
  rintro e w5 ⟨rfl, hb5⟩
  clear cvw400
  clear cvw401
  clear cvw402
  have B5 := hide (next (B4.out) hb5)
  replace cv := hide (cv.out.keep hb5)
  have cvw510 := fun o0 => (cv.out.alloc o0).1.1
  have cvw511 := fun o0 => (cv.out.alloc o0).1.2.1
  have cvw512 := fun o0 => (cv.out.alloc o0).1.2.2
  go_wp2_with fail
  go_ret
  exact ⟨rfl, step (B5.out) _⟩
set_option maxHeartbeats 4000000 in
set_option maxRecDepth 100000 in
theorem shown_44  (HG : CallT 7 #[] (.bool true)) (HS : CallT 9 #[vV 4 4 no] (.string e4T)) (HM : CallIs 10 #[vV 4 4 no] (.bool true)) (HA : CallT 11 #[vV 4 4 no] (siV no 4)) (HL : CallIs 12 #[.string e4T] (vbV 4 4 no true)) : CallT 4 #[vV 4 4 no] (.bool true) := by
  intro w ht
  have HT := hide ht
  clear ht
  go_enter Tryd.func4, Tryd.ntmps4
  try simp only [List.append]
  go_wp2_with fail
  refine (HG.out _ (tab_below HT.out (step (Below.refl w.heap.size w) _))).mono ?_
  rintro e w1 ⟨rfl, hb1⟩
  have B1 := hide (next (step (Below.refl w.heap.size w) _) hb1)
  have cv := hide ((O3.new w (.int .i64 4) (.int .i64 4) (.string no) 26).keep hb1)
  have cvw100 := cv.out.1.1
  have cvw101 := cv.out.1.2.1
  have cvw102 := cv.out.1.2.2
  go_wp2_with fail
  refine (HS.out _ (tab_below HT.out (B1.out))).mono ?_
  rintro e w2 ⟨rfl, hb2⟩
  clear cvw100
  clear cvw101
  clear cvw102
  have B2 := hide (next (B1.out) hb2)
  replace cv := hide (cv.out.keep hb2)
  have cvw200 := cv.out.1.1
  have cvw201 := cv.out.1.2.1
  have cvw202 := cv.out.1.2.2
  go_wp2_with fail
  refine (HM.out _).mono ?_
  rintro e w3 ⟨rfl, hb3⟩
  clear cvw200
  clear cvw201
  clear cvw202
  have B3 := hide (next (B2.out) hb3)
  replace cv := hide (cv.out.keep hb3)
  have cvw300 := cv.out.1.1
  have cvw301 := cv.out.1.2.1
  have cvw302 := cv.out.1.2.2
  go_wp2_with fail
  refine (HA.out _ (tab_below HT.out (B3.out))).mono ?_
  rintro e w4 ⟨rfl, hb4⟩
  clear cvw300
  clear cvw301
  clear cvw302
  have B4 := hide (next (B3.out) hb4)
  replace cv := hide (cv.out.keep hb4)
  have cvw400 := cv.out.1.1
  have cvw401 := cv.out.1.2.1
  have cvw402 := cv.out.1.2.2
  go_wp2_with fail
  refine (HL.out _).mono ?_
  rintro e w5 ⟨rfl, hb5⟩
  clear cvw400
  clear cvw401
  clear cvw402
  have B5 := hide (next (B4.out) hb5)
  replace cv := hide (cv.out.keep hb5)
  have cvw510 := fun o0 => (cv.out.alloc o0).1.1
  have cvw511 := fun o0 => (cv.out.alloc o0).1.2.1
  have cvw512 := fun o0 => (cv.out.alloc o0).1.2.2
  go_wp2_with fail
  go_ret
  exact ⟨rfl, step (B5.out) _⟩
set_option maxHeartbeats 4000000 in
set_option maxRecDepth 100000 in
theorem shown_45  (HG : CallT 7 #[] (.bool true)) (HS : CallT 9 #[vV 4 5 no] (.string e5T)) (HM : CallIs 10 #[vV 4 5 no] (.bool true)) (HA : CallT 11 #[vV 4 5 no] (siV no 5)) (HL : CallIs 12 #[.string e5T] (vbV 4 5 no true)) : CallT 4 #[vV 4 5 no] (.bool true) := by
  intro w ht
  have HT := hide ht
  clear ht
  go_enter Tryd.func4, Tryd.ntmps4
  try simp only [List.append]
  go_wp2_with fail
  refine (HG.out _ (tab_below HT.out (step (Below.refl w.heap.size w) _))).mono ?_
  rintro e w1 ⟨rfl, hb1⟩
  have B1 := hide (next (step (Below.refl w.heap.size w) _) hb1)
  have cv := hide ((O3.new w (.int .i64 4) (.int .i64 5) (.string no) 26).keep hb1)
  have cvw100 := cv.out.1.1
  have cvw101 := cv.out.1.2.1
  have cvw102 := cv.out.1.2.2
  go_wp2_with fail
  refine (HS.out _ (tab_below HT.out (B1.out))).mono ?_
  rintro e w2 ⟨rfl, hb2⟩
  clear cvw100
  clear cvw101
  clear cvw102
  have B2 := hide (next (B1.out) hb2)
  replace cv := hide (cv.out.keep hb2)
  have cvw200 := cv.out.1.1
  have cvw201 := cv.out.1.2.1
  have cvw202 := cv.out.1.2.2
  go_wp2_with fail
  refine (HM.out _).mono ?_
  rintro e w3 ⟨rfl, hb3⟩
  clear cvw200
  clear cvw201
  clear cvw202
  have B3 := hide (next (B2.out) hb3)
  replace cv := hide (cv.out.keep hb3)
  have cvw300 := cv.out.1.1
  have cvw301 := cv.out.1.2.1
  have cvw302 := cv.out.1.2.2
  go_wp2_with fail
  refine (HA.out _ (tab_below HT.out (B3.out))).mono ?_
  rintro e w4 ⟨rfl, hb4⟩
  clear cvw300
  clear cvw301
  clear cvw302
  have B4 := hide (next (B3.out) hb4)
  replace cv := hide (cv.out.keep hb4)
  have cvw400 := cv.out.1.1
  have cvw401 := cv.out.1.2.1
  have cvw402 := cv.out.1.2.2
  go_wp2_with fail
  refine (HL.out _).mono ?_
  rintro e w5 ⟨rfl, hb5⟩
  clear cvw400
  clear cvw401
  clear cvw402
  have B5 := hide (next (B4.out) hb5)
  replace cv := hide (cv.out.keep hb5)
  have cvw510 := fun o0 => (cv.out.alloc o0).1.1
  have cvw511 := fun o0 => (cv.out.alloc o0).1.2.1
  have cvw512 := fun o0 => (cv.out.alloc o0).1.2.2
  go_wp2_with fail
  go_ret
  exact ⟨rfl, step (B5.out) _⟩
set_option maxHeartbeats 4000000 in
set_option maxRecDepth 100000 in
theorem shown_46  (HG : CallT 7 #[] (.bool true)) (HS : CallT 9 #[vV 4 6 no] (.string e6T)) (HM : CallIs 10 #[vV 4 6 no] (.bool true)) (HA : CallT 11 #[vV 4 6 no] (siV no 6)) (HL : CallIs 12 #[.string e6T] (vbV 4 6 no true)) : CallT 4 #[vV 4 6 no] (.bool true) := by
  intro w ht
  have HT := hide ht
  clear ht
  go_enter Tryd.func4, Tryd.ntmps4
  try simp only [List.append]
  go_wp2_with fail
  refine (HG.out _ (tab_below HT.out (step (Below.refl w.heap.size w) _))).mono ?_
  rintro e w1 ⟨rfl, hb1⟩
  have B1 := hide (next (step (Below.refl w.heap.size w) _) hb1)
  have cv := hide ((O3.new w (.int .i64 4) (.int .i64 6) (.string no) 26).keep hb1)
  have cvw100 := cv.out.1.1
  have cvw101 := cv.out.1.2.1
  have cvw102 := cv.out.1.2.2
  go_wp2_with fail
  refine (HS.out _ (tab_below HT.out (B1.out))).mono ?_
  rintro e w2 ⟨rfl, hb2⟩
  clear cvw100
  clear cvw101
  clear cvw102
  have B2 := hide (next (B1.out) hb2)
  replace cv := hide (cv.out.keep hb2)
  have cvw200 := cv.out.1.1
  have cvw201 := cv.out.1.2.1
  have cvw202 := cv.out.1.2.2
  go_wp2_with fail
  refine (HM.out _).mono ?_
  rintro e w3 ⟨rfl, hb3⟩
  clear cvw200
  clear cvw201
  clear cvw202
  have B3 := hide (next (B2.out) hb3)
  replace cv := hide (cv.out.keep hb3)
  have cvw300 := cv.out.1.1
  have cvw301 := cv.out.1.2.1
  have cvw302 := cv.out.1.2.2
  go_wp2_with fail
  refine (HA.out _ (tab_below HT.out (B3.out))).mono ?_
  rintro e w4 ⟨rfl, hb4⟩
  clear cvw300
  clear cvw301
  clear cvw302
  have B4 := hide (next (B3.out) hb4)
  replace cv := hide (cv.out.keep hb4)
  have cvw400 := cv.out.1.1
  have cvw401 := cv.out.1.2.1
  have cvw402 := cv.out.1.2.2
  go_wp2_with fail
  refine (HL.out _).mono ?_
  rintro e w5 ⟨rfl, hb5⟩
  clear cvw400
  clear cvw401
  clear cvw402
  have B5 := hide (next (B4.out) hb5)
  replace cv := hide (cv.out.keep hb5)
  have cvw510 := fun o0 => (cv.out.alloc o0).1.1
  have cvw511 := fun o0 => (cv.out.alloc o0).1.2.1
  have cvw512 := fun o0 => (cv.out.alloc o0).1.2.2
  go_wp2_with fail
  go_ret
  exact ⟨rfl, step (B5.out) _⟩
set_option maxHeartbeats 4000000 in
set_option maxRecDepth 100000 in
theorem shown_3 (t : ByteArray) (hz : t.size ≤ 32767) (k' i' : Int) (t' : ByteArray) (b : Bool) (HG : CallT 7 #[] (.bool true)) (HS : CallT 9 #[vV 3 0 t] (.string t)) (HM : CallIs 10 #[vV 3 0 t] (.bool true)) (HA : CallT 11 #[vV 3 0 t] (siV t 0)) (HL : CallIs 12 #[.string t] (vbV k' i' t' b)) (HQ : CallIs 12 #[.string ((⟨#[39]⟩ : ByteArray) ++ t)] (vbV 3 0 t true)) : CallT 4 #[vV 3 0 t] (.bool true) := by
  intro w ht
  have HT := hide ht
  clear ht
  go_enter Tryd.func4, Tryd.ntmps4
  try simp only [List.append]
  go_wp2_with fail
  refine (HG.out _ (tab_below HT.out (step (Below.refl w.heap.size w) _))).mono ?_
  rintro e w1 ⟨rfl, hb1⟩
  have B1 := hide (next (step (Below.refl w.heap.size w) _) hb1)
  have cv := hide ((O3.new w (.int .i64 3) (.int .i64 0) (.string t) 26).keep hb1)
  have cvw100 := cv.out.1.1
  have cvw101 := cv.out.1.2.1
  have cvw102 := cv.out.1.2.2
  go_wp2_with fail
  refine (HS.out _ (tab_below HT.out (B1.out))).mono ?_
  rintro e w2 ⟨rfl, hb2⟩
  clear cvw100
  clear cvw101
  clear cvw102
  have B2 := hide (next (B1.out) hb2)
  replace cv := hide (cv.out.keep hb2)
  have cvw200 := cv.out.1.1
  have cvw201 := cv.out.1.2.1
  have cvw202 := cv.out.1.2.2
  go_wp2_with fail
  refine (HM.out _).mono ?_
  rintro e w3 ⟨rfl, hb3⟩
  clear cvw200
  clear cvw201
  clear cvw202
  have B3 := hide (next (B2.out) hb3)
  replace cv := hide (cv.out.keep hb3)
  have cvw300 := cv.out.1.1
  have cvw301 := cv.out.1.2.1
  have cvw302 := cv.out.1.2.2
  go_wp2_with fail
  refine (HA.out _ (tab_below HT.out (B3.out))).mono ?_
  rintro e w4 ⟨rfl, hb4⟩
  clear cvw300
  clear cvw301
  clear cvw302
  have B4 := hide (next (B3.out) hb4)
  replace cv := hide (cv.out.keep hb4)
  have cvw400 := cv.out.1.1
  have cvw401 := cv.out.1.2.1
  have cvw402 := cv.out.1.2.2
  go_wp2_with fail
  refine (HL.out _).mono ?_
  rintro e w5 ⟨rfl, hb5⟩
  clear cvw400
  clear cvw401
  clear cvw402
  have B5 := hide (next (B4.out) hb5)
  replace cv := hide (cv.out.keep hb5)
  have cvw510 := fun o0 => (cv.out.alloc o0).1.1
  have cvw511 := fun o0 => (cv.out.alloc o0).1.2.1
  have cvw512 := fun o0 => (cv.out.alloc o0).1.2.2
  go_wp2_with fail
  refine (HQ.out _).mono ?_
  rintro e w6 ⟨rfl, hb6⟩
  clear cvw510
  clear cvw511
  clear cvw512
  have B6 := hide (next (step (B5.out) _) hb6)
  replace cv := hide ((cv.out.alloc _).keep hb6)
  have cw := hide ((O3.new w5 (.int .i64 k') (.int .i64 i') (.string t') 26).keep hb6)
  have cvw610 := fun o0 => (cv.out.alloc o0).1.1
  have cvw611 := fun o0 => (cv.out.alloc o0).1.2.1
  have cvw612 := fun o0 => (cv.out.alloc o0).1.2.2
  go_wp2_with fail
  go_ret
  exact ⟨rfl, step (B6.out) _⟩
theorem notCycle {k i : Int} {t : ByteArray} (h : ¬ (k = 4 ∧ i = 7 ∧ t = no)) : CallIs 16 #[vV k i t, vV 4 7 no] (.bool false) := by
  by_cases hk : k = 4
  · subst hk
    by_cases hi : i = 7
    · subst hi
      exact vsame_t (tl_ne (fun e => h ⟨rfl, rfl, e⟩))
    · exact vsame_i (beq_eq_false_iff_ne.2 hi)
  · exact vsame_k (beq_eq_false_iff_ne.2 hk)
theorem lit_quoted {t : ByteArray} (h : t.size ≤ 32767) : CallIs 12 #[.string ((⟨#[39]⟩ : ByteArray) ++ t)] (vbV 3 0 t true) := by
  have hd : ((⟨#[39]⟩ : ByteArray) ++ t).data.toList = 39 :: t.data.toList := by simp
  have hz : ((⟨#[39]⟩ : ByteArray) ++ t).size = t.size + 1 := by rw [Lib.size_eq, hd, List.length_cons, ← Lib.size_eq]
  have hp : 0 < ((⟨#[39]⟩ : ByteArray) ++ t).size := by omega
  have h0 := head_of _ hp _ _ hd
  refine vlit_quote _ t _ _ _ (by unfold maxLen; omega) hp (data_eq (tail_of _ _ _ hd)) ?_ ?_ (textv_good h)
  · rw [h0]; rfl
  · rw [h0]; rfl
theorem valueShown_walk (k i : Int) (t : ByteArray) (h0 : lo ≤ i) (h1 : i ≤ hi) : CallT 4 #[vV k i t] (.bool true) := by
  by_cases g : Good k i t
  · have HS := sound_good g
    have HM := vmay_yes g
    have g' := g
    rcases g' with ⟨rfl, rfl, rfl⟩ | ⟨rfl, rfl⟩ | ⟨rfl, rfl | rfl, rfl⟩ | ⟨rfl, rfl, ht⟩ | ⟨rfl, he, rfl⟩
    · have HA := (vtxt_plain 0 0 no rfl rfl rfl HS).t
      exact shown_0 begun_is (vshow_txt _ _ _ _ (notCycle (by omega)) HA) HM HA vlit_nil
    · have HA := vtxt_int i _ HS (text_is i h0 h1)
      exact shown_1 i _ begun_is (vshow_txt _ _ _ _ (notCycle (by omega)) HA) HM HA (lit_numeral i h0 h1)
    · have HA := (vtxt_no HS).t
      exact shown_20 begun_is (vshow_txt _ _ _ _ (notCycle (by omega)) HA) HM HA lit_tF
    · have HA := (vtxt_yes HS).t
      exact shown_21 begun_is (vshow_txt _ _ _ _ (notCycle (by omega)) HA) HM HA lit_tT
    · have HA := (vtxt_plain 3 0 t rfl rfl rfl HS).t
      obtain ⟨k', i', t', b, HL, _⟩ := lit_both t (text_max ht)
      exact shown_3 t ht _ _ _ _ begun_is (vshow_txt _ _ _ _ (notCycle (by omega)) HA) HM HA HL (lit_quoted ht)
    · have HA := vtxt_err i HS
      have HC : CallIs 16 #[vV 4 i no, vV 4 7 no] (.bool false) := notCycle (by omega)
      have hx := ne0 (show ¬ i = 0 by omega)
      obtain rfl | rfl | rfl | rfl | rfl | rfl : i = 1 ∨ i = 2 ∨ i = 3 ∨ i = 4 ∨ i = 5 ∨ i = 6 := by omega
      · exact shown_41 begun_is (vshow_err _ _ _ _ _ _ hx HC HA etext1).t HM HA.t lit_e1
      · exact shown_42 begun_is (vshow_err _ _ _ _ _ _ hx HC HA etext2).t HM HA.t lit_e2
      · exact shown_43 begun_is (vshow_err _ _ _ _ _ _ hx HC HA etext3).t HM HA.t lit_e3
      · exact shown_44 begun_is (vshow_err _ _ _ _ _ _ hx HC HA etext4).t HM HA.t lit_e4
      · exact shown_45 begun_is (vshow_err _ _ _ _ _ _ hx HC HA etext5).t HM HA.t lit_e5
      · exact shown_46 begun_is (vshow_err _ _ _ _ _ _ hx HC HA etext6).t HM HA.t lit_e6
  · have HS := sound_bad g
    by_cases hc : k = 4 ∧ i = 7 ∧ t = no
    · obtain ⟨rfl, rfl, rfl⟩ := hc
      exact shown_cycle begun_is (vshow_cycle 4 7 no (vsame_yes 4 7 no) etext7).t (vmay_no g)
    · exact shown_bad k i t begun_is (vshow_err _ _ _ _ _ _ (show ((4 : Int) != 0) = true from rfl) (notCycle hc) (vtxt_err 4 HS) etext4).t (vmay_no g)
end Go.Proofs.YtlgmcabnbmbocaaDoor
