/- The law ValueKinds returns true for every value, and changes nothing that was there. -/
import Derived.Test.YtlgmcabnbmbocaaDoorBegun4
namespace Go.Proofs.YtlgmcabnbmbocaaDoor
open Go.RowKit Go.Sort
set_option linter.unusedVariables false

set_option maxHeartbeats 4000000 in
set_option maxRecDepth 100000 in
theorem kinds_bad (k i : Int) (t : ByteArray) (HG : CallT 7 #[] (.bool true)) (HN : CallIs 13 #[vV k i t] (iiV 0 4)) (HB : CallIs 14 #[vV k i t] (biV false 4)) (HS : CallT 11 #[vV k i t] (siV no 4)) (HM : CallIs 10 #[vV k i t] (.bool false)) : CallT 5 #[vV k i t] (.bool true) := by
  intro w ht
  have HT := hide ht
  clear ht
  go_enter Tryd.func5, Tryd.ntmps5
  try simp only [List.append]
  go_wp2_with fail
  refine (HG.out _ (tab_below HT.out (step (Below.refl w.heap.size w) _))).mono ?_
  rintro e w1 ⟨rfl, hb1⟩
  have B1 := hide (next (step (Below.refl w.heap.size w) _) hb1)
  have cv := hide ((O3.new w (.int .i64 k) (.int .i64 i) (.string t) 26).keep hb1)
  have cvw100 := cv.out.1.1
  have cvw101 := cv.out.1.2.1
  have cvw102 := cv.out.1.2.2
  go_wp2_with fail
  refine (HN.out _).mono ?_
  rintro e w2 ⟨rfl, hb2⟩
  clear cvw100
  clear cvw101
  clear cvw102
  have B2 := hide (next (B1.out) hb2)
  replace cv := hide (cv.out.keep hb2)
  have cvw200 := cv.out.1.1
  have cvw201 := cv.out.1.2.1
  have cvw202 := cv.out.1.2.2
  go_wp2_with fail
  refine (HB.out _).mono ?_
  rintro e w3 ⟨rfl, hb3⟩
  clear cvw200
  clear cvw201
  clear cvw202
  have B3 := hide (next (B2.out) hb3)
  replace cv := hide (cv.out.keep hb3)
  have cvw300 := cv.out.1.1
  have cvw301 := cv.out.1.2.1
  have cvw302 := cv.out.1.2.2
  go_wp2_with fail
  refine (HS.out _ (tab_below HT.out (B3.out))).mono ?_
  rintro e w4 ⟨rfl, hb4⟩
  clear cvw300
  clear cvw301
  clear cvw302
  have B4 := hide (next (B3.out) hb4)
  replace cv := hide (cv.out.keep hb4)
  have cvw400 := cv.out.1.1
  have cvw401 := cv.out.1.2.1
  have cvw402 := cv.out.1.2.2
  go_wp2_with fail
  refine (HM.out _).mono ?_
  rintro e w5 ⟨rfl, hb5⟩
  clear cvw400
  clear cvw401
  clear cvw402
  have B5 := hide (next (B4.out) hb5)
  replace cv := hide (cv.out.keep hb5)
  have cvw500 := cv.out.1.1
  have cvw501 := cv.out.1.2.1
  have cvw502 := cv.out.1.2.2
  go_wp2_with fail
  go_ret
  exact ⟨rfl, B5.out⟩
set_option maxHeartbeats 4000000 in
set_option maxRecDepth 100000 in
theorem kinds_0  (HG : CallT 7 #[] (.bool true)) (HN : CallIs 13 #[vV 0 0 no] (iiV 0 0)) (HB : CallIs 14 #[vV 0 0 no] (biV false 0)) (HS : CallT 11 #[vV 0 0 no] (siV no 0)) (HM : CallIs 10 #[vV 0 0 no] (.bool true)) : CallT 5 #[vV 0 0 no] (.bool true) := by
  intro w ht
  have HT := hide ht
  clear ht
  go_enter Tryd.func5, Tryd.ntmps5
  try simp only [List.append]
  go_wp2_with fail
  refine (HG.out _ (tab_below HT.out (step (Below.refl w.heap.size w) _))).mono ?_
  rintro e w1 ⟨rfl, hb1⟩
  have B1 := hide (next (step (Below.refl w.heap.size w) _) hb1)
  have cv := hide ((O3.new w (.int .i64 0) (.int .i64 0) (.string no) 26).keep hb1)
  have cvw100 := cv.out.1.1
  have cvw101 := cv.out.1.2.1
  have cvw102 := cv.out.1.2.2
  go_wp2_with fail
  refine (HN.out _).mono ?_
  rintro e w2 ⟨rfl, hb2⟩
  clear cvw100
  clear cvw101
  clear cvw102
  have B2 := hide (next (B1.out) hb2)
  replace cv := hide (cv.out.keep hb2)
  have cvw200 := cv.out.1.1
  have cvw201 := cv.out.1.2.1
  have cvw202 := cv.out.1.2.2
  go_wp2_with fail
  refine (HB.out _).mono ?_
  rintro e w3 ⟨rfl, hb3⟩
  clear cvw200
  clear cvw201
  clear cvw202
  have B3 := hide (next (B2.out) hb3)
  replace cv := hide (cv.out.keep hb3)
  have cvw300 := cv.out.1.1
  have cvw301 := cv.out.1.2.1
  have cvw302 := cv.out.1.2.2
  go_wp2_with fail
  refine (HS.out _ (tab_below HT.out (B3.out))).mono ?_
  rintro e w4 ⟨rfl, hb4⟩
  clear cvw300
  clear cvw301
  clear cvw302
  have B4 := hide (next (B3.out) hb4)
  replace cv := hide (cv.out.keep hb4)
  have cvw400 := cv.out.1.1
  have cvw401 := cv.out.1.2.1
  have cvw402 := cv.out.1.2.2
  go_wp2_with fail
  refine (HM.out _).mono ?_
  rintro e w5 ⟨rfl, hb5⟩
  clear cvw400
  clear cvw401
  clear cvw402
  have B5 := hide (next (B4.out) hb5)
  replace cv := hide (cv.out.keep hb5)
  have cvw500 := cv.out.1.1
  have cvw501 := cv.out.1.2.1
  have cvw502 := cv.out.1.2.2
  go_wp2_with fail
  go_ret
  exact ⟨rfl, B5.out⟩
set_option maxHeartbeats 4000000 in
set_option maxRecDepth 100000 in
theorem kinds_1z (s : ByteArray) (HG : CallT 7 #[] (.bool true)) (HN : CallIs 13 #[vV 1 0 no] (iiV 0 0)) (HB : CallIs 14 #[vV 1 0 no] (biV false 0)) (HS : CallT 11 #[vV 1 0 no] (siV s 0)) (HM : CallIs 10 #[vV 1 0 no] (.bool true)) : CallT 5 #[vV 1 0 no] (.bool true) := by
  intro w ht
  have HT := hide ht
  clear ht
  go_enter Tryd.func5, Tryd.ntmps5
  try simp only [List.append]
  go_wp2_with fail
  refine (HG.out _ (tab_below HT.out (step (Below.refl w.heap.size w) _))).mono ?_
  rintro e w1 ⟨rfl, hb1⟩
  have B1 := hide (next (step (Below.refl w.heap.size w) _) hb1)
  have cv := hide ((O3.new w (.int .i64 1) (.int .i64 0) (.string no) 26).keep hb1)
  have cvw100 := cv.out.1.1
  have cvw101 := cv.out.1.2.1
  have cvw102 := cv.out.1.2.2
  go_wp2_with fail
  refine (HN.out _).mono ?_
  rintro e w2 ⟨rfl, hb2⟩
  clear cvw100
  clear cvw101
  clear cvw102
  have B2 := hide (next (B1.out) hb2)
  replace cv := hide (cv.out.keep hb2)
  have cvw200 := cv.out.1.1
  have cvw201 := cv.out.1.2.1
  have cvw202 := cv.out.1.2.2
  go_wp2_with fail
  refine (HB.out _).mono ?_
  rintro e w3 ⟨rfl, hb3⟩
  clear cvw200
  clear cvw201
  clear cvw202
  have B3 := hide (next (B2.out) hb3)
  replace cv := hide (cv.out.keep hb3)
  have cvw300 := cv.out.1.1
  have cvw301 := cv.out.1.2.1
  have cvw302 := cv.out.1.2.2
  go_wp2_with fail
  refine (HS.out _ (tab_below HT.out (B3.out))).mono ?_
  rintro e w4 ⟨rfl, hb4⟩
  clear cvw300
  clear cvw301
  clear cvw302
  have B4 := hide (next (B3.out) hb4)
  replace cv := hide (cv.out.keep hb4)
  have cvw400 := cv.out.1.1
  have cvw401 := cv.out.1.2.1
  have cvw402 := cv.out.1.2.2
  go_wp2_with fail
  refine (HM.out _).mono ?_
  rintro e w5 ⟨rfl, hb5⟩
  clear cvw400
  clear cvw401
  clear cvw402
  have B5 := hide (next (B4.out) hb5)
  replace cv := hide (cv.out.keep hb5)
  have cvw500 := cv.out.1.1
  have cvw501 := cv.out.1.2.1
  have cvw502 := cv.out.1.2.2
  go_wp2_with fail
  go_ret
  exact ⟨rfl, B5.out⟩
set_option maxHeartbeats 4000000 in
set_option maxRecDepth 100000 in
theorem kinds_1n (n : Int) (s : ByteArray) (hn : (n != 0) = true) (HG : CallT 7 #[] (.bool true)) (HN : CallIs 13 #[vV 1 n no] (iiV n 0)) (HB : CallIs 14 #[vV 1 n no] (biV true 0)) (HS : CallT 11 #[vV 1 n no] (siV s 0)) (HM : CallIs 10 #[vV 1 n no] (.bool true)) : CallT 5 #[vV 1 n no] (.bool true) := by
  intro w ht
  have HT := hide ht
  clear ht
  go_enter Tryd.func5, Tryd.ntmps5
  try simp only [List.append]
  go_wp2_with fail
  refine (HG.out _ (tab_below HT.out (step (Below.refl w.heap.size w) _))).mono ?_
  rintro e w1 ⟨rfl, hb1⟩
  have B1 := hide (next (step (Below.refl w.heap.size w) _) hb1)
  have cv := hide ((O3.new w (.int .i64 1) (.int .i64 n) (.string no) 26).keep hb1)
  have cvw100 := cv.out.1.1
  have cvw101 := cv.out.1.2.1
  have cvw102 := cv.out.1.2.2
  go_wp2_with fail
  refine (HN.out _).mono ?_
  rintro e w2 ⟨rfl, hb2⟩
  clear cvw100
  clear cvw101
  clear cvw102
  have B2 := hide (next (B1.out) hb2)
  replace cv := hide (cv.out.keep hb2)
  have cvw200 := cv.out.1.1
  have cvw201 := cv.out.1.2.1
  have cvw202 := cv.out.1.2.2
  go_wp2_with fail
  refine (HB.out _).mono ?_
  rintro e w3 ⟨rfl, hb3⟩
  clear cvw200
  clear cvw201
  clear cvw202
  have B3 := hide (next (B2.out) hb3)
  replace cv := hide (cv.out.keep hb3)
  have cvw300 := cv.out.1.1
  have cvw301 := cv.out.1.2.1
  have cvw302 := cv.out.1.2.2
  go_wp2_with fail
  refine (HS.out _ (tab_below HT.out (B3.out))).mono ?_
  rintro e w4 ⟨rfl, hb4⟩
  clear cvw300
  clear cvw301
  clear cvw302
  have B4 := hide (next (B3.out) hb4)
  replace cv := hide (cv.out.keep hb4)
  have cvw400 := cv.out.1.1
  have cvw401 := cv.out.1.2.1
  have cvw402 := cv.out.1.2.2
  go_wp2_with fail
  refine (HM.out _).mono ?_
  rintro e w5 ⟨rfl, hb5⟩
  clear cvw400
  clear cvw401
  clear cvw402
  have B5 := hide (next (B4.out) hb5)
  replace cv := hide (cv.out.keep hb5)
  have cvw500 := cv.out.1.1
  have cvw501 := cv.out.1.2.1
  have cvw502 := cv.out.1.2.2
  go_wp2_with fail
  go_ret
  exact ⟨rfl, B5.out⟩
set_option maxHeartbeats 4000000 in
set_option maxRecDepth 100000 in
theorem kinds_20  (HG : CallT 7 #[] (.bool true)) (HN : CallIs 13 #[vV 2 0 no] (iiV 0 0)) (HB : CallIs 14 #[vV 2 0 no] (biV false 0)) (HS : CallT 11 #[vV 2 0 no] (siV tF 0)) (HM : CallIs 10 #[vV 2 0 no] (.bool true)) : CallT 5 #[vV 2 0 no] (.bool true) := by
  intro w ht
  have HT := hide ht
  clear ht
  go_enter Tryd.func5, Tryd.ntmps5
  try simp only [List.append]
  go_wp2_with fail
  refine (HG.out _ (tab_below HT.out (step (Below.refl w.heap.size w) _))).mono ?_
  rintro e w1 ⟨rfl, hb1⟩
  have B1 := hide (next (step (Below.refl w.heap.size w) _) hb1)
  have cv := hide ((O3.new w (.int .i64 2) (.int .i64 0) (.string no) 26).keep hb1)
  have cvw100 := cv.out.1.1
  have cvw101 := cv.out.1.2.1
  have cvw102 := cv.out.1.2.2
  go_wp2_with fail
  refine (HN.out _).mono ?_
  rintro e w2 ⟨rfl, hb2⟩
  clear cvw100
  clear cvw101
  clear cvw102
  have B2 := hide (next (B1.out) hb2)
  replace cv := hide (cv.out.keep hb2)
  have cvw200 := cv.out.1.1
  have cvw201 := cv.out.1.2.1
  have cvw202 := cv.out.1.2.2
  go_wp2_with fail
  refine (HB.out _).mono ?_
  rintro e w3 ⟨rfl, hb3⟩
  clear cvw200
  clear cvw201
  clear cvw202
  have B3 := hide (next (B2.out) hb3)
  replace cv := hide (cv.out.keep hb3)
  have cvw300 := cv.out.1.1
  have cvw301 := cv.out.1.2.1
  have cvw302 := cv.out.1.2.2
  go_wp2_with fail
  refine (HS.out _ (tab_below HT.out (B3.out))).mono ?_
  rintro e w4 ⟨rfl, hb4⟩
  clear cvw300
  clear cvw301
  clear cvw302
  have B4 := hide (next (B3.out) hb4)
  replace cv := hide (cv.out.keep hb4)
  have cvw400 := cv.out.1.1
  have cvw401 := cv.out.1.2.1
  have cvw402 := cv.out.1.2.2
  go_wp2_with fail
  refine (HM.out _).mono ?_
  rintro e w5 ⟨rfl, hb5⟩
  clear cvw400
  clear cvw401
  clear cvw402
  have B5 := hide (next (B4.out) hb5)
  replace cv := hide (cv.out.keep hb5)
  have cvw500 := cv.out.1.1
  have cvw501 := cv.out.1.2.1
  have cvw502 := cv.out.1.2.2
  go_wp2_with fail
  go_ret
  exact ⟨rfl, B5.out⟩
set_option maxHeartbeats 4000000 in
set_option maxRecDepth 100000 in
theorem kinds_21  (HG : CallT 7 #[] (.bool true)) (HN : CallIs 13 #[vV 2 1 no] (iiV 1 0)) (HB : CallIs 14 #[vV 2 1 no] (biV true 0)) (HS : CallT 11 #[vV 2 1 no] (siV tT 0)) (HM : CallIs 10 #[vV 2 1 no] (.bool true)) : CallT 5 #[vV 2 1 no] (.bool true) := by
  intro w ht
  have HT := hide ht
  clear ht
  go_enter Tryd.func5, Tryd.ntmps5
  try simp only [List.append]
  go_wp2_with fail
  refine (HG.out _ (tab_below HT.out (step (Below.refl w.heap.size w) _))).mono ?_
  rintro e w1 ⟨rfl, hb1⟩
  have B1 := hide (next (step (Below.refl w.heap.size w) _) hb1)
  have cv := hide ((O3.new w (.int .i64 2) (.int .i64 1) (.string no) 26).keep hb1)
  have cvw100 := cv.out.1.1
  have cvw101 := cv.out.1.2.1
  have cvw102 := cv.out.1.2.2
  go_wp2_with fail
  refine (HN.out _).mono ?_
  rintro e w2 ⟨rfl, hb2⟩
  clear cvw100
  clear cvw101
  clear cvw102
  have B2 := hide (next (B1.out) hb2)
  replace cv := hide (cv.out.keep hb2)
  have cvw200 := cv.out.1.1
  have cvw201 := cv.out.1.2.1
  have cvw202 := cv.out.1.2.2
  go_wp2_with fail
  refine (HB.out _).mono ?_
  rintro e w3 ⟨rfl, hb3⟩
  clear cvw200
  clear cvw201
  clear cvw202
  have B3 := hide (next (B2.out) hb3)
  replace cv := hide (cv.out.keep hb3)
  have cvw300 := cv.out.1.1
  have cvw301 := cv.out.1.2.1
  have cvw302 := cv.out.1.2.2
  go_wp2_with fail
  refine (HS.out _ (tab_below HT.out (B3.out))).mono ?_
  rintro e w4 ⟨rfl, hb4⟩
  clear cvw300
  clear cvw301
  clear cvw302
  have B4 := hide (next (B3.out) hb4)
  replace cv := hide (cv.out.keep hb4)
  have cvw400 := cv.out.1.1
  have cvw401 := cv.out.1.2.1
  have cvw402 := cv.out.1.2.2
  go_wp2_with fail
  refine (HM.out _).mono ?_
  rintro e w5 ⟨rfl, hb5⟩
  clear cvw400
  clear cvw401
  clear cvw402
  have B5 := hide (next (B4.out) hb5)
  replace cv := hide (cv.out.keep hb5)
  have cvw500 := cv.out.1.1
  have cvw501 := cv.out.1.2.1
  have cvw502 := cv.out.1.2.2
  go_wp2_with fail
  go_ret
  exact ⟨rfl, B5.out⟩
set_option maxHeartbeats 4000000 in
set_option maxRecDepth 100000 in
theorem kinds_3T  (HG : CallT 7 #[] (.bool true)) (HN : CallIs 13 #[vV 3 0 tT] (iiV 0 4)) (HB : CallIs 14 #[vV 3 0 tT] (biV true 0)) (HS : CallT 11 #[vV 3 0 tT] (siV tT 0)) (HM : CallIs 10 #[vV 3 0 tT] (.bool true)) : CallT 5 #[vV 3 0 tT] (.bool true) := by
  intro w ht
  have HT := hide ht
  clear ht
  go_enter Tryd.func5, Tryd.ntmps5
  try simp only [List.append]
  go_wp2_with fail
  refine (HG.out _ (tab_below HT.out (step (Below.refl w.heap.size w) _))).mono ?_
  rintro e w1 ⟨rfl, hb1⟩
  have B1 := hide (next (step (Below.refl w.heap.size w) _) hb1)
  have cv := hide ((O3.new w (.int .i64 3) (.int .i64 0) (.string tT) 26).keep hb1)
  have cvw100 := cv.out.1.1
  have cvw101 := cv.out.1.2.1
  have cvw102 := cv.out.1.2.2
  go_wp2_with fail
  refine (HN.out _).mono ?_
  rintro e w2 ⟨rfl, hb2⟩
  clear cvw100
  clear cvw101
  clear cvw102
  have B2 := hide (next (B1.out) hb2)
  replace cv := hide (cv.out.keep hb2)
  have cvw200 := cv.out.1.1
  have cvw201 := cv.out.1.2.1
  have cvw202 := cv.out.1.2.2
  go_wp2_with fail
  refine (HB.out _).mono ?_
  rintro e w3 ⟨rfl, hb3⟩
  clear cvw200
  clear cvw201
  clear cvw202
  have B3 := hide (next (B2.out) hb3)
  replace cv := hide (cv.out.keep hb3)
  have cvw300 := cv.out.1.1
  have cvw301 := cv.out.1.2.1
  have cvw302 := cv.out.1.2.2
  go_wp2_with fail
  refine (HS.out _ (tab_below HT.out (B3.out))).mono ?_
  rintro e w4 ⟨rfl, hb4⟩
  clear cvw300
  clear cvw301
  clear cvw302
  have B4 := hide (next (B3.out) hb4)
  replace cv := hide (cv.out.keep hb4)
  have cvw400 := cv.out.1.1
  have cvw401 := cv.out.1.2.1
  have cvw402 := cv.out.1.2.2
  go_wp2_with fail
  refine (HM.out _).mono ?_
  rintro e w5 ⟨rfl, hb5⟩
  clear cvw400
  clear cvw401
  clear cvw402
  have B5 := hide (next (B4.out) hb5)
  replace cv := hide (cv.out.keep hb5)
  have cvw500 := cv.out.1.1
  have cvw501 := cv.out.1.2.1
  have cvw502 := cv.out.1.2.2
  go_wp2_with fail
  go_ret
  exact ⟨rfl, B5.out⟩
set_option maxHeartbeats 4000000 in
set_option maxRecDepth 100000 in
theorem kinds_3F  (HG : CallT 7 #[] (.bool true)) (HN : CallIs 13 #[vV 3 0 tF] (iiV 0 4)) (HB : CallIs 14 #[vV 3 0 tF] (biV false 0)) (HS : CallT 11 #[vV 3 0 tF] (siV tF 0)) (HM : CallIs 10 #[vV 3 0 tF] (.bool true)) : CallT 5 #[vV 3 0 tF] (.bool true) := by
  intro w ht
  have HT := hide ht
  clear ht
  go_enter Tryd.func5, Tryd.ntmps5
  try simp only [List.append]
  go_wp2_with fail
  refine (HG.out _ (tab_below HT.out (step (Below.refl w.heap.size w) _))).mono ?_
  rintro e w1 ⟨rfl, hb1⟩
  have B1 := hide (next (step (Below.refl w.heap.size w) _) hb1)
  have cv := hide ((O3.new w (.int .i64 3) (.int .i64 0) (.string tF) 26).keep hb1)
  have cvw100 := cv.out.1.1
  have cvw101 := cv.out.1.2.1
  have cvw102 := cv.out.1.2.2
  go_wp2_with fail
  refine (HN.out _).mono ?_
  rintro e w2 ⟨rfl, hb2⟩
  clear cvw100
  clear cvw101
  clear cvw102
  have B2 := hide (next (B1.out) hb2)
  replace cv := hide (cv.out.keep hb2)
  have cvw200 := cv.out.1.1
  have cvw201 := cv.out.1.2.1
  have cvw202 := cv.out.1.2.2
  go_wp2_with fail
  refine (HB.out _).mono ?_
  rintro e w3 ⟨rfl, hb3⟩
  clear cvw200
  clear cvw201
  clear cvw202
  have B3 := hide (next (B2.out) hb3)
  replace cv := hide (cv.out.keep hb3)
  have cvw300 := cv.out.1.1
  have cvw301 := cv.out.1.2.1
  have cvw302 := cv.out.1.2.2
  go_wp2_with fail
  refine (HS.out _ (tab_below HT.out (B3.out))).mono ?_
  rintro e w4 ⟨rfl, hb4⟩
  clear cvw300
  clear cvw301
  clear cvw302
  have B4 := hide (next (B3.out) hb4)
  replace cv := hide (cv.out.keep hb4)
  have cvw400 := cv.out.1.1
  have cvw401 := cv.out.1.2.1
  have cvw402 := cv.out.1.2.2
  go_wp2_with fail
  refine (HM.out _).mono ?_
  rintro e w5 ⟨rfl, hb5⟩
  clear cvw400
  clear cvw401
  clear cvw402
  have B5 := hide (next (B4.out) hb5)
  replace cv := hide (cv.out.keep hb5)
  have cvw500 := cv.out.1.1
  have cvw501 := cv.out.1.2.1
  have cvw502 := cv.out.1.2.2
  go_wp2_with fail
  go_ret
  exact ⟨rfl, B5.out⟩
set_option maxHeartbeats 4000000 in
set_option maxRecDepth 100000 in
theorem kinds_3n (t : ByteArray) (n : Int) (HG : CallT 7 #[] (.bool true)) (HN : CallIs 13 #[vV 3 0 t] (iiV n 0)) (HB : CallIs 14 #[vV 3 0 t] (biV false 4)) (HS : CallT 11 #[vV 3 0 t] (siV t 0)) (HM : CallIs 10 #[vV 3 0 t] (.bool true)) (HX : CallT 11 #[vV 1 n no] (siV t 0)) : CallT 5 #[vV 3 0 t] (.bool true) := by
  intro w ht
  have HT := hide ht
  clear ht
  go_enter Tryd.func5, Tryd.ntmps5
  try simp only [List.append]
  go_wp2_with fail
  refine (HG.out _ (tab_below HT.out (step (Below.refl w.heap.size w) _))).mono ?_
  rintro e w1 ⟨rfl, hb1⟩
  have B1 := hide (next (step (Below.refl w.heap.size w) _) hb1)
  have cv := hide ((O3.new w (.int .i64 3) (.int .i64 0) (.string t) 26).keep hb1)
  have cvw100 := cv.out.1.1
  have cvw101 := cv.out.1.2.1
  have cvw102 := cv.out.1.2.2
  go_wp2_with fail
  refine (HN.out _).mono ?_
  rintro e w2 ⟨rfl, hb2⟩
  clear cvw100
  clear cvw101
  clear cvw102
  have B2 := hide (next (B1.out) hb2)
  replace cv := hide (cv.out.keep hb2)
  have cvw200 := cv.out.1.1
  have cvw201 := cv.out.1.2.1
  have cvw202 := cv.out.1.2.2
  go_wp2_with fail
  refine (HB.out _).mono ?_
  rintro e w3 ⟨rfl, hb3⟩
  clear cvw200
  clear cvw201
  clear cvw202
  have B3 := hide (next (B2.out) hb3)
  replace cv := hide (cv.out.keep hb3)
  have cvw300 := cv.out.1.1
  have cvw301 := cv.out.1.2.1
  have cvw302 := cv.out.1.2.2
  go_wp2_with fail
  refine (HS.out _ (tab_below HT.out (B3.out))).mono ?_
  rintro e w4 ⟨rfl, hb4⟩
  clear cvw300
  clear cvw301
  clear cvw302
  have B4 := hide (next (B3.out) hb4)
  replace cv := hide (cv.out.keep hb4)
  have cvw400 := cv.out.1.1
  have cvw401 := cv.out.1.2.1
  have cvw402 := cv.out.1.2.2
  go_wp2_with fail
  refine (HM.out _).mono ?_
  rintro e w5 ⟨rfl, hb5⟩
  clear cvw400
  clear cvw401
  clear cvw402
  have B5 := hide (next (B4.out) hb5)
  replace cv := hide (cv.out.keep hb5)
  have cvw500 := cv.out.1.1
  have cvw501 := cv.out.1.2.1
  have cvw502 := cv.out.1.2.2
  go_wp2_with fail
  refine (HX.out _ (tab_below HT.out (B5.out))).mono ?_
  rintro e w6 ⟨rfl, hb6⟩
  clear cvw500
  clear cvw501
  clear cvw502
  have B6 := hide (next (B5.out) hb6)
  replace cv := hide (cv.out.keep hb6)
  have cvw600 := cv.out.1.1
  have cvw601 := cv.out.1.2.1
  have cvw602 := cv.out.1.2.2
  go_wp2_with fail
  go_ret
  exact ⟨rfl, B6.out⟩
set_option maxHeartbeats 4000000 in
set_option maxRecDepth 100000 in
theorem kinds_3x (t : ByteArray) (hT : (t.toList == [84, 82, 85, 69]) = false) (hF : (t.toList == [70, 65, 76, 83, 69]) = false) (HG : CallT 7 #[] (.bool true)) (HN : CallIs 13 #[vV 3 0 t] (iiV 0 4)) (HB : CallIs 14 #[vV 3 0 t] (biV false 4)) (HS : CallT 11 #[vV 3 0 t] (siV t 0)) (HM : CallIs 10 #[vV 3 0 t] (.bool true)) : CallT 5 #[vV 3 0 t] (.bool true) := by
  intro w ht
  have HT := hide ht
  clear ht
  go_enter Tryd.func5, Tryd.ntmps5
  try simp only [List.append]
  go_wp2_with fail
  refine (HG.out _ (tab_below HT.out (step (Below.refl w.heap.size w) _))).mono ?_
  rintro e w1 ⟨rfl, hb1⟩
  have B1 := hide (next (step (Below.refl w.heap.size w) _) hb1)
  have cv := hide ((O3.new w (.int .i64 3) (.int .i64 0) (.string t) 26).keep hb1)
  have cvw100 := cv.out.1.1
  have cvw101 := cv.out.1.2.1
  have cvw102 := cv.out.1.2.2
  go_wp2_with fail
  refine (HN.out _).mono ?_
  rintro e w2 ⟨rfl, hb2⟩
  clear cvw100
  clear cvw101
  clear cvw102
  have B2 := hide (next (B1.out) hb2)
  replace cv := hide (cv.out.keep hb2)
  have cvw200 := cv.out.1.1
  have cvw201 := cv.out.1.2.1
  have cvw202 := cv.out.1.2.2
  go_wp2_with fail
  refine (HB.out _).mono ?_
  rintro e w3 ⟨rfl, hb3⟩
  clear cvw200
  clear cvw201
  clear cvw202
  have B3 := hide (next (B2.out) hb3)
  replace cv := hide (cv.out.keep hb3)
  have cvw300 := cv.out.1.1
  have cvw301 := cv.out.1.2.1
  have cvw302 := cv.out.1.2.2
  go_wp2_with fail
  refine (HS.out _ (tab_below HT.out (B3.out))).mono ?_
  rintro e w4 ⟨rfl, hb4⟩
  clear cvw300
  clear cvw301
  clear cvw302
  have B4 := hide (next (B3.out) hb4)
  replace cv := hide (cv.out.keep hb4)
  have cvw400 := cv.out.1.1
  have cvw401 := cv.out.1.2.1
  have cvw402 := cv.out.1.2.2
  go_wp2_with fail
  refine (HM.out _).mono ?_
  rintro e w5 ⟨rfl, hb5⟩
  clear cvw400
  clear cvw401
  clear cvw402
  have B5 := hide (next (B4.out) hb5)
  replace cv := hide (cv.out.keep hb5)
  have cvw500 := cv.out.1.1
  have cvw501 := cv.out.1.2.1
  have cvw502 := cv.out.1.2.2
  go_wp2_with fail
  go_ret
  exact ⟨rfl, B5.out⟩
set_option maxHeartbeats 4000000 in
set_option maxRecDepth 100000 in
theorem kinds_4 (e : Int) (h0 : (e != 0) = true) (HG : CallT 7 #[] (.bool true)) (HN : CallIs 13 #[vV 4 e no] (iiV 0 e)) (HB : CallIs 14 #[vV 4 e no] (biV false e)) (HS : CallT 11 #[vV 4 e no] (siV no e)) (HM : CallIs 10 #[vV 4 e no] (.bool true)) : CallT 5 #[vV 4 e no] (.bool true) := by
  intro w ht
  have HT := hide ht
  clear ht
  go_enter Tryd.func5, Tryd.ntmps5
  try simp only [List.append]
  go_wp2_with fail
  refine (HG.out _ (tab_below HT.out (step (Below.refl w.heap.size w) _))).mono ?_
  rintro e w1 ⟨rfl, hb1⟩
  have B1 := hide (next (step (Below.refl w.heap.size w) _) hb1)
  have cv := hide ((O3.new w (.int .i64 4) (.int .i64 e) (.string no) 26).keep hb1)
  have cvw100 := cv.out.1.1
  have cvw101 := cv.out.1.2.1
  have cvw102 := cv.out.1.2.2
  go_wp2_with fail
  refine (HN.out _).mono ?_
  rintro e w2 ⟨rfl, hb2⟩
  clear cvw100
  clear cvw101
  clear cvw102
  have B2 := hide (next (B1.out) hb2)
  replace cv := hide (cv.out.keep hb2)
  have cvw200 := cv.out.1.1
  have cvw201 := cv.out.1.2.1
  have cvw202 := cv.out.1.2.2
  go_wp2_with fail
  refine (HB.out _).mono ?_
  rintro e w3 ⟨rfl, hb3⟩
  clear cvw200
  clear cvw201
  clear cvw202
  have B3 := hide (next (B2.out) hb3)
  replace cv := hide (cv.out.keep hb3)
  have cvw300 := cv.out.1.1
  have cvw301 := cv.out.1.2.1
  have cvw302 := cv.out.1.2.2
  go_wp2_with fail
  refine (HS.out _ (tab_below HT.out (B3.out))).mono ?_
  rintro e w4 ⟨rfl, hb4⟩
  clear cvw300
  clear cvw301
  clear cvw302
  have B4 := hide (next (B3.out) hb4)
  replace cv := hide (cv.out.keep hb4)
  have cvw400 := cv.out.1.1
  have cvw401 := cv.out.1.2.1
  have cvw402 := cv.out.1.2.2
  go_wp2_with fail
  refine (HM.out _).mono ?_
  rintro e w5 ⟨rfl, hb5⟩
  clear cvw400
  clear cvw401
  clear cvw402
  have B5 := hide (next (B4.out) hb5)
  replace cv := hide (cv.out.keep hb5)
  have cvw500 := cv.out.1.1
  have cvw501 := cv.out.1.2.1
  have cvw502 := cv.out.1.2.2
  go_wp2_with fail
  go_ret
  exact ⟨rfl, B5.out⟩
theorem valueKinds_walk (k i : Int) (t : ByteArray) (h0 : lo ≤ i) (h1 : i ≤ hi) : CallT 5 #[vV k i t] (.bool true) := by
  by_cases g : Good k i t
  · have HS := sound_good g
    have HM := vmay_yes g
    have g' := g
    rcases g' with ⟨rfl, rfl, rfl⟩ | ⟨rfl, rfl⟩ | ⟨rfl, rfl | rfl, rfl⟩ | ⟨rfl, rfl, ht⟩ | ⟨rfl, he, rfl⟩
    · exact kinds_0 begun_is (vnum_plain 0 0 no rfl rfl HS) (vtru_false 0 0 no rfl rfl rfl HS) (vtxt_plain 0 0 no rfl rfl rfl HS).t HM
    · by_cases hi : i = 0
      · subst hi
        exact kinds_1z _ begun_is (vnum_plain 1 0 no rfl rfl HS) (vtru_false 1 0 no rfl rfl rfl HS) (vtxt_int 0 _ HS (text_is 0 h0 h1)) HM
      · exact kinds_1n i _ (ne0 hi) begun_is (vnum_plain 1 i no rfl rfl HS) (vtru_true 1 i no rfl rfl (ne0 hi) HS) (vtxt_int i _ HS (text_is i h0 h1)) HM
    · exact kinds_20 begun_is (vnum_plain 2 0 no rfl rfl HS) (vtru_false 2 0 no rfl rfl rfl HS) (vtxt_no HS).t HM
    · exact kinds_21 begun_is (vnum_plain 2 1 no rfl rfl HS) (vtru_true 2 1 no rfl rfl rfl HS) (vtxt_yes HS).t HM
    · have HX := (vtxt_plain 3 0 t rfl rfl rfl HS).t
      cases hT : (t.toList == [84, 82, 85, 69])
      · cases hF : (t.toList == [70, 65, 76, 83, 69])
        · rcases read_num t (text_max ht) with ⟨n, HR, hn, n0, n1⟩ | ⟨x, hx, HR⟩
          · have HA := vtxt_int (k := 1) (i := n) (t := no) n _ (sound_good (good_int n)) (text_is n n0 n1)
            rw [hn] at HA
            exact kinds_3n t n begun_is (vnum_text t n HS HR) (vtru_bad t hT hF HS) HX HM HA
          · exact kinds_3x t hT hF begun_is (vnum_bad t 0 x (ne0 hx) HS HR) (vtru_bad t hT hF HS) HX HM
        · obtain rfl := eq_of_tl hF
          exact kinds_3F begun_is (vnum_bad tF 0 12 rfl HS (read_of tF (by decide +kernel) (by decide +kernel))) (vtru_F HS) HX HM
      · obtain rfl := eq_of_tl hT
        exact kinds_3T begun_is (vnum_bad tT 0 12 rfl HS (read_of tT (by decide +kernel) (by decide +kernel))) (vtru_T HS) HX HM
    · exact kinds_4 i (ne0 (by omega)) begun_is (vnum_err i HS) (vtru_err i HS) (vtxt_err i HS).t HM
  · have HS := sound_bad g
    exact kinds_bad k i t begun_is (vnum_err 4 HS) (vtru_err 4 HS) (vtxt_err 4 HS).t (vmay_no g)
end Go.Proofs.YtlgmcabnbmbocaaDoor
