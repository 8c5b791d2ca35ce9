/- What a value is as a number, as a text and as a truth, by package value and by the reference, kind by kind. Proved of the Go text. -/
import Derived.Test.YtgnmkhjilecdhaaGreatDoorK4J
import Derived.Test.YtgnmkhjilecdhaaGreatDoorRefH
import Derived.Deep.QuietTactic
namespace Go.Proofs.YtgnmkhjilecdhaaGreatDoor
open Go.RowKit Go.Sort
set_option linter.unusedVariables false

theorem below_drewN {B : Nat} {a w : World} (h : Below B a w) (n : Nat) : Below B a (w.drewN n) := ⟨h.os, h.tape, h.output, h.size, h.block⟩
abbrev tT : ByteArray := { data := #[84, 82, 85, 69] }
abbrev tF : ByteArray := { data := #[70, 65, 76, 83, 69] }
set_option maxHeartbeats 1000000 in
theorem vnum_plain {k i : Int} {t : ByteArray} (k' i' : Int) (t' : ByteArray) (q3 : (k' == 3) = false) (q4 : (k' == 4) = false) (HS : CallIs 95 #[vV k i t] (vV k' i' t')) : CallIs 19 #[vV k i t] (.tuple #[.int .i64 i', .int .i64 0]) := by
  intro w
  go_enter Tryz.func19, Tryz.ntmps19
  try simp only [List.append]
  go_wp2_with fail
  refine (HS.out _).mono ?_
  rintro e w1 ⟨rfl, hb1⟩
  have B1 := hide (next (step (Below.refl w.heap.size w) _) hb1)
  have cv := hide ((O3.new w (.int .i64 k) (.int .i64 i) (.string t) 30).keep hb1)
  have cvw100 := cv.out.1.1
  have cvw101 := cv.out.1.2.1
  have cvw102 := cv.out.1.2.2
  have cvw10f := cv.out.2
  have B1p := hide (below_put3 (b := w.heap.size) (B1.out) (by omega) (.int .i64 k') (.int .i64 i') (.string t'))
  replace cv := hide (cv.out.put (.int .i64 k') (.int .i64 i') (.string t'))
  obtain ⟨w1p, hw1p⟩ : ∃ w1p, put3 w1 (w.heap.size) (.int .i64 k') (.int .i64 i') (.string t') = w1p := ⟨_, rfl⟩
  rw [hw1p] at B1p cv
  unfold put3 at hw1p
  have cvw1p00 := cv.out.1.1
  have cvw1p01 := cv.out.1.2.1
  have cvw1p02 := cv.out.1.2.2
  go_wp2_with fail
  go_ret2
  exact ⟨rfl, B1p.out⟩
set_option maxHeartbeats 1000000 in
theorem vnum_err {k i : Int} {t : ByteArray} (e : Int) (HS : CallIs 95 #[vV k i t] (vV 4 e no)) : CallIs 19 #[vV k i t] (.tuple #[.int .i64 0, .int .i64 e]) := by
  intro w
  go_enter Tryz.func19, Tryz.ntmps19
  try simp only [List.append]
  go_wp2_with fail
  refine (HS.out _).mono ?_
  rintro e w1 ⟨rfl, hb1⟩
  have B1 := hide (next (step (Below.refl w.heap.size w) _) hb1)
  have cv := hide ((O3.new w (.int .i64 k) (.int .i64 i) (.string t) 30).keep hb1)
  have cvw100 := cv.out.1.1
  have cvw101 := cv.out.1.2.1
  have cvw102 := cv.out.1.2.2
  have cvw10f := cv.out.2
  have B1p := hide (below_put3 (b := w.heap.size) (B1.out) (by omega) (.int .i64 4) (.int .i64 e) (.string no))
  replace cv := hide (cv.out.put (.int .i64 4) (.int .i64 e) (.string no))
  obtain ⟨w1p, hw1p⟩ : ∃ w1p, put3 w1 (w.heap.size) (.int .i64 4) (.int .i64 e) (.string no) = w1p := ⟨_, rfl⟩
  rw [hw1p] at B1p cv
  unfold put3 at hw1p
  have cvw1p00 := cv.out.1.1
  have cvw1p01 := cv.out.1.2.1
  have cvw1p02 := cv.out.1.2.2
  go_wp2_with fail
  go_quiet (fail)
  go_wp2_with fail
  go_ret2
  exact ⟨rfl, below_drewN (B1p.out) _⟩
set_option maxHeartbeats 1000000 in
theorem vnum_text {k i : Int} {t : ByteArray} (t' : ByteArray) (n : Int) (HS : CallIs 95 #[vV k i t] (vV 3 0 t')) (HR : CallIs 96 #[.string t'] (.tuple #[.int .i64 n, .int .i64 0])) : CallIs 19 #[vV k i t] (.tuple #[.int .i64 n, .int .i64 0]) := by
  intro w
  go_enter Tryz.func19, Tryz.ntmps19
  try simp only [List.append]
  go_wp2_with fail
  refine (HS.out _).mono ?_
  rintro e w1 ⟨rfl, hb1⟩
  have B1 := hide (next (step (Below.refl w.heap.size w) _) hb1)
  have cv := hide ((O3.new w (.int .i64 k) (.int .i64 i) (.string t) 30).keep hb1)
  have cvw100 := cv.out.1.1
  have cvw101 := cv.out.1.2.1
  have cvw102 := cv.out.1.2.2
  have cvw10f := cv.out.2
  have B1p := hide (below_put3 (b := w.heap.size) (B1.out) (by omega) (.int .i64 3) (.int .i64 0) (.string t'))
  replace cv := hide (cv.out.put (.int .i64 3) (.int .i64 0) (.string t'))
  obtain ⟨w1p, hw1p⟩ : ∃ w1p, put3 w1 (w.heap.size) (.int .i64 3) (.int .i64 0) (.string t') = w1p := ⟨_, rfl⟩
  rw [hw1p] at B1p cv
  unfold put3 at hw1p
  have cvw1p00 := cv.out.1.1
  have cvw1p01 := cv.out.1.2.1
  have cvw1p02 := cv.out.1.2.2
  go_wp2_with fail
  refine (HR.out _).mono ?_
  rintro e w2 ⟨rfl, hb2⟩
  clear cvw100
  clear cvw101
  clear cvw102
  clear cvw10f
  clear cvw1p00
  clear cvw1p01
  clear cvw1p02
  have B2 := hide (next (B1p.out) hb2)
  replace cv := hide (cv.out.keep hb2)
  have cvw200 := cv.out.1.1
  have cvw201 := cv.out.1.2.1
  have cvw202 := cv.out.1.2.2
  go_wp2_with fail
  go_ret2
  exact ⟨rfl, B2.out⟩
set_option maxHeartbeats 1000000 in
theorem vnum_bad {k i : Int} {t : ByteArray} (t' : ByteArray) (n x : Int) (hx : (x != 0) = true) (HS : CallIs 95 #[vV k i t] (vV 3 0 t')) (HR : CallIs 96 #[.string t'] (.tuple #[.int .i64 n, .int .i64 x])) : CallIs 19 #[vV k i t] (.tuple #[.int .i64 0, .int .i64 4]) := by
  intro w
  go_enter Tryz.func19, Tryz.ntmps19
  try simp only [List.append]
  go_wp2_with fail
  refine (HS.out _).mono ?_
  rintro e w1 ⟨rfl, hb1⟩
  have B1 := hide (next (step (Below.refl w.heap.size w) _) hb1)
  have cv := hide ((O3.new w (.int .i64 k) (.int .i64 i) (.string t) 30).keep hb1)
  have cvw100 := cv.out.1.1
  have cvw101 := cv.out.1.2.1
  have cvw102 := cv.out.1.2.2
  have cvw10f := cv.out.2
  have B1p := hide (below_put3 (b := w.heap.size) (B1.out) (by omega) (.int .i64 3) (.int .i64 0) (.string t'))
  replace cv := hide (cv.out.put (.int .i64 3) (.int .i64 0) (.string t'))
  obtain ⟨w1p, hw1p⟩ : ∃ w1p, put3 w1 (w.heap.size) (.int .i64 3) (.int .i64 0) (.string t') = w1p := ⟨_, rfl⟩
  rw [hw1p] at B1p cv
  unfold put3 at hw1p
  have cvw1p00 := cv.out.1.1
  have cvw1p01 := cv.out.1.2.1
  have cvw1p02 := cv.out.1.2.2
  go_wp2_with fail
  refine (HR.out _).mono ?_
  rintro e w2 ⟨rfl, hb2⟩
  clear cvw100
  clear cvw101
  clear cvw102
  clear cvw10f
  clear cvw1p00
  clear cvw1p01
  clear cvw1p02
  have B2 := hide (next (B1p.out) hb2)
  replace cv := hide (cv.out.keep hb2)
  have cvw200 := cv.out.1.1
  have cvw201 := cv.out.1.2.1
  have cvw202 := cv.out.1.2.2
  go_wp2_with fail
  go_ret2
  exact ⟨rfl, B2.out⟩
set_option maxHeartbeats 1000000 in
theorem vtxt_plain {k i : Int} {t : ByteArray} (k' i' : Int) (t' : ByteArray) (q1 : (k' == 1) = false) (q2 : (k' == 2) = false) (q4 : (k' == 4) = false) (HS : CallIs 95 #[vV k i t] (vV k' i' t')) : CallIs 99 #[vV k i t] (.tuple #[.string t', .int .i64 0]) := by
  intro w
  go_enter Tryz.func99, Tryz.ntmps99
  try simp only [List.append]
  go_wp2_with fail
  refine (HS.out _).mono ?_
  rintro e w1 ⟨rfl, hb1⟩
  have B1 := hide (next (step (Below.refl w.heap.size w) _) hb1)
  have cv := hide ((O3.new w (.int .i64 k) (.int .i64 i) (.string t) 30).keep hb1)
  have cvw100 := cv.out.1.1
  have cvw101 := cv.out.1.2.1
  have cvw102 := cv.out.1.2.2
  have cvw10f := cv.out.2
  have B1p := hide (below_put3 (b := w.heap.size) (B1.out) (by omega) (.int .i64 k') (.int .i64 i') (.string t'))
  replace cv := hide (cv.out.put (.int .i64 k') (.int .i64 i') (.string t'))
  obtain ⟨w1p, hw1p⟩ : ∃ w1p, put3 w1 (w.heap.size) (.int .i64 k') (.int .i64 i') (.string t') = w1p := ⟨_, rfl⟩
  rw [hw1p] at B1p cv
  unfold put3 at hw1p
  have cvw1p00 := cv.out.1.1
  have cvw1p01 := cv.out.1.2.1
  have cvw1p02 := cv.out.1.2.2
  go_wp2_with fail
  go_ret2
  exact ⟨rfl, B1p.out⟩
set_option maxHeartbeats 1000000 in
theorem vtxt_int {k i : Int} {t : ByteArray} (n : Int) (s : ByteArray) (HS : CallIs 95 #[vV k i t] (vV 1 n no)) (HX : CallT 122 #[.int .i64 n] (.string s)) : CallT 99 #[vV k i t] (.tuple #[.string s, .int .i64 0]) := by
  intro w ht
  have HT := hide ht
  clear ht
  go_enter Tryz.func99, Tryz.ntmps99
  try simp only [List.append]
  go_wp2_with fail
  refine (HS.out _).mono ?_
  rintro e w1 ⟨rfl, hb1⟩
  have B1 := hide (next (step (Below.refl w.heap.size w) _) hb1)
  have cv := hide ((O3.new w (.int .i64 k) (.int .i64 i) (.string t) 30).keep hb1)
  have cvw100 := cv.out.1.1
  have cvw101 := cv.out.1.2.1
  have cvw102 := cv.out.1.2.2
  have cvw10f := cv.out.2
  have B1p := hide (below_put3 (b := w.heap.size) (B1.out) (by omega) (.int .i64 1) (.int .i64 n) (.string no))
  replace cv := hide (cv.out.put (.int .i64 1) (.int .i64 n) (.string no))
  obtain ⟨w1p, hw1p⟩ : ∃ w1p, put3 w1 (w.heap.size) (.int .i64 1) (.int .i64 n) (.string no) = w1p := ⟨_, rfl⟩
  rw [hw1p] at B1p cv
  unfold put3 at hw1p
  have cvw1p00 := cv.out.1.1
  have cvw1p01 := cv.out.1.2.1
  have cvw1p02 := cv.out.1.2.2
  go_wp2_with fail
  refine (HX.out _ (tab_below HT.out (B1p.out))).mono ?_
  rintro e w2 ⟨rfl, hb2⟩
  clear cvw100
  clear cvw101
  clear cvw102
  clear cvw10f
  clear cvw1p00
  clear cvw1p01
  clear cvw1p02
  have B2 := hide (next (B1p.out) hb2)
  replace cv := hide (cv.out.keep hb2)
  have cvw200 := cv.out.1.1
  have cvw201 := cv.out.1.2.1
  have cvw202 := cv.out.1.2.2
  go_wp2_with fail
  go_ret2
  exact ⟨rfl, B2.out⟩
set_option maxHeartbeats 1000000 in
theorem vtxt_yes {k i : Int} {t : ByteArray} (HS : CallIs 95 #[vV k i t] (vV 2 1 no)) : CallIs 99 #[vV k i t] (.tuple #[.string tT, .int .i64 0]) := by
  intro w
  go_enter Tryz.func99, Tryz.ntmps99
  try simp only [List.append]
  go_wp2_with fail
  refine (HS.out _).mono ?_
  rintro e w1 ⟨rfl, hb1⟩
  have B1 := hide (next (step (Below.refl w.heap.size w) _) hb1)
  have cv := hide ((O3.new w (.int .i64 k) (.int .i64 i) (.string t) 30).keep hb1)
  have cvw100 := cv.out.1.1
  have cvw101 := cv.out.1.2.1
  have cvw102 := cv.out.1.2.2
  have cvw10f := cv.out.2
  have B1p := hide (below_put3 (b := w.heap.size) (B1.out) (by omega) (.int .i64 2) (.int .i64 1) (.string no))
  replace cv := hide (cv.out.put (.int .i64 2) (.int .i64 1) (.string no))
  obtain ⟨w1p, hw1p⟩ : ∃ w1p, put3 w1 (w.heap.size) (.int .i64 2) (.int .i64 1) (.string no) = w1p := ⟨_, rfl⟩
  rw [hw1p] at B1p cv
  unfold put3 at hw1p
  have cvw1p00 := cv.out.1.1
  have cvw1p01 := cv.out.1.2.1
  have cvw1p02 := cv.out.1.2.2
  go_wp2_with fail
  go_ret2
  exact ⟨rfl, B1p.out⟩
set_option maxHeartbeats 1000000 in
theorem vtxt_no {k i : Int} {t : ByteArray} (HS : CallIs 95 #[vV k i t] (vV 2 0 no)) : CallIs 99 #[vV k i t] (.tuple #[.string tF, .int .i64 0]) := by
  intro w
  go_enter Tryz.func99, Tryz.ntmps99
  try simp only [List.append]
  go_wp2_with fail
  refine (HS.out _).mono ?_
  rintro e w1 ⟨rfl, hb1⟩
  have B1 := hide (next (step (Below.refl w.heap.size w) _) hb1)
  have cv := hide ((O3.new w (.int .i64 k) (.int .i64 i) (.string t) 30).keep hb1)
  have cvw100 := cv.out.1.1
  have cvw101 := cv.out.1.2.1
  have cvw102 := cv.out.1.2.2
  have cvw10f := cv.out.2
  have B1p := hide (below_put3 (b := w.heap.size) (B1.out) (by omega) (.int .i64 2) (.int .i64 0) (.string no))
  replace cv := hide (cv.out.put (.int .i64 2) (.int .i64 0) (.string no))
  obtain ⟨w1p, hw1p⟩ : ∃ w1p, put3 w1 (w.heap.size) (.int .i64 2) (.int .i64 0) (.string no) = w1p := ⟨_, rfl⟩
  rw [hw1p] at B1p cv
  unfold put3 at hw1p
  have cvw1p00 := cv.out.1.1
  have cvw1p01 := cv.out.1.2.1
  have cvw1p02 := cv.out.1.2.2
  go_wp2_with fail
  go_ret2
  exact ⟨rfl, B1p.out⟩
set_option maxHeartbeats 1000000 in
theorem vtxt_err {k i : Int} {t : ByteArray} (e : Int) (HS : CallIs 95 #[vV k i t] (vV 4 e no)) : CallIs 99 #[vV k i t] (.tuple #[.string no, .int .i64 e]) := by
  intro w
  go_enter Tryz.func99, Tryz.ntmps99
  try simp only [List.append]
  go_wp2_with fail
  refine (HS.out _).mono ?_
  rintro e w1 ⟨rfl, hb1⟩
  have B1 := hide (next (step (Below.refl w.heap.size w) _) hb1)
  have cv := hide ((O3.new w (.int .i64 k) (.int .i64 i) (.string t) 30).keep hb1)
  have cvw100 := cv.out.1.1
  have cvw101 := cv.out.1.2.1
  have cvw102 := cv.out.1.2.2
  have cvw10f := cv.out.2
  have B1p := hide (below_put3 (b := w.heap.size) (B1.out) (by omega) (.int .i64 4) (.int .i64 e) (.string no))
  replace cv := hide (cv.out.put (.int .i64 4) (.int .i64 e) (.string no))
  obtain ⟨w1p, hw1p⟩ : ∃ w1p, put3 w1 (w.heap.size) (.int .i64 4) (.int .i64 e) (.string no) = w1p := ⟨_, rfl⟩
  rw [hw1p] at B1p cv
  unfold put3 at hw1p
  have cvw1p00 := cv.out.1.1
  have cvw1p01 := cv.out.1.2.1
  have cvw1p02 := cv.out.1.2.2
  go_wp2_with fail
  go_quiet (fail)
  go_wp2_with fail
  go_ret2
  exact ⟨rfl, below_drewN (B1p.out) _⟩
set_option maxHeartbeats 1000000 in
theorem vtru_true {k i : Int} {t : ByteArray} (k' i' : Int) (t' : ByteArray) (q3 : (k' == 3) = false) (q4 : (k' == 4) = false) (qi : (i' != 0) = true) (HS : CallIs 95 #[vV k i t] (vV k' i' t')) : CallIs 136 #[vV k i t] (.tuple #[.bool true, .int .i64 0]) := by
  intro w
  go_enter Tryz.func136, Tryz.ntmps136
  try simp only [List.append]
  go_wp2_with fail
  refine (HS.out _).mono ?_
  rintro e w1 ⟨rfl, hb1⟩
  have B1 := hide (next (step (Below.refl w.heap.size w) _) hb1)
  have cv := hide ((O3.new w (.int .i64 k) (.int .i64 i) (.string t) 30).keep hb1)
  have cvw100 := cv.out.1.1
  have cvw101 := cv.out.1.2.1
  have cvw102 := cv.out.1.2.2
  have cvw10f := cv.out.2
  have B1p := hide (below_put3 (b := w.heap.size) (B1.out) (by omega) (.int .i64 k') (.int .i64 i') (.string t'))
  replace cv := hide (cv.out.put (.int .i64 k') (.int .i64 i') (.string t'))
  obtain ⟨w1p, hw1p⟩ : ∃ w1p, put3 w1 (w.heap.size) (.int .i64 k') (.int .i64 i') (.string t') = w1p := ⟨_, rfl⟩
  rw [hw1p] at B1p cv
  unfold put3 at hw1p
  have cvw1p00 := cv.out.1.1
  have cvw1p01 := cv.out.1.2.1
  have cvw1p02 := cv.out.1.2.2
  go_wp2_with fail
  go_ret2
  exact ⟨rfl, B1p.out⟩
set_option maxHeartbeats 1000000 in
theorem vtru_false {k i : Int} {t : ByteArray} (k' i' : Int) (t' : ByteArray) (q3 : (k' == 3) = false) (q4 : (k' == 4) = false) (qi : (i' != 0) = false) (HS : CallIs 95 #[vV k i t] (vV k' i' t')) : CallIs 136 #[vV k i t] (.tuple #[.bool false, .int .i64 0]) := by
  intro w
  go_enter Tryz.func136, Tryz.ntmps136
  try simp only [List.append]
  go_wp2_with fail
  refine (HS.out _).mono ?_
  rintro e w1 ⟨rfl, hb1⟩
  have B1 := hide (next (step (Below.refl w.heap.size w) _) hb1)
  have cv := hide ((O3.new w (.int .i64 k) (.int .i64 i) (.string t) 30).keep hb1)
  have cvw100 := cv.out.1.1
  have cvw101 := cv.out.1.2.1
  have cvw102 := cv.out.1.2.2
  have cvw10f := cv.out.2
  have B1p := hide (below_put3 (b := w.heap.size) (B1.out) (by omega) (.int .i64 k') (.int .i64 i') (.string t'))
  replace cv := hide (cv.out.put (.int .i64 k') (.int .i64 i') (.string t'))
  obtain ⟨w1p, hw1p⟩ : ∃ w1p, put3 w1 (w.heap.size) (.int .i64 k') (.int .i64 i') (.string t') = w1p := ⟨_, rfl⟩
  rw [hw1p] at B1p cv
  unfold put3 at hw1p
  have cvw1p00 := cv.out.1.1
  have cvw1p01 := cv.out.1.2.1
  have cvw1p02 := cv.out.1.2.2
  go_wp2_with fail
  go_ret2
  exact ⟨rfl, B1p.out⟩
set_option maxHeartbeats 1000000 in
theorem vtru_err {k i : Int} {t : ByteArray} (e : Int) (HS : CallIs 95 #[vV k i t] (vV 4 e no)) : CallIs 136 #[vV k i t] (.tuple #[.bool false, .int .i64 e]) := by
  intro w
  go_enter Tryz.func136, Tryz.ntmps136
  try simp only [List.append]
  go_wp2_with fail
  refine (HS.out _).mono ?_
  rintro e w1 ⟨rfl, hb1⟩
  have B1 := hide (next (step (Below.refl w.heap.size w) _) hb1)
  have cv := hide ((O3.new w (.int .i64 k) (.int .i64 i) (.string t) 30).keep hb1)
  have cvw100 := cv.out.1.1
  have cvw101 := cv.out.1.2.1
  have cvw102 := cv.out.1.2.2
  have cvw10f := cv.out.2
  have B1p := hide (below_put3 (b := w.heap.size) (B1.out) (by omega) (.int .i64 4) (.int .i64 e) (.string no))
  replace cv := hide (cv.out.put (.int .i64 4) (.int .i64 e) (.string no))
  obtain ⟨w1p, hw1p⟩ : ∃ w1p, put3 w1 (w.heap.size) (.int .i64 4) (.int .i64 e) (.string no) = w1p := ⟨_, rfl⟩
  rw [hw1p] at B1p cv
  unfold put3 at hw1p
  have cvw1p00 := cv.out.1.1
  have cvw1p01 := cv.out.1.2.1
  have cvw1p02 := cv.out.1.2.2
  go_wp2_with fail
  go_quiet (fail)
  go_wp2_with fail
  go_ret2
  exact ⟨rfl, below_drewN (B1p.out) _⟩
set_option maxHeartbeats 1000000 in
theorem vtru_T {k i : Int} {t : ByteArray} (HS : CallIs 95 #[vV k i t] (vV 3 0 tT)) : CallIs 136 #[vV k i t] (.tuple #[.bool true, .int .i64 0]) := by
  intro w
  go_enter Tryz.func136, Tryz.ntmps136
  try simp only [List.append]
  go_wp2_with fail
  refine (HS.out _).mono ?_
  rintro e w1 ⟨rfl, hb1⟩
  have B1 := hide (next (step (Below.refl w.heap.size w) _) hb1)
  have cv := hide ((O3.new w (.int .i64 k) (.int .i64 i) (.string t) 30).keep hb1)
  have cvw100 := cv.out.1.1
  have cvw101 := cv.out.1.2.1
  have cvw102 := cv.out.1.2.2
  have cvw10f := cv.out.2
  have B1p := hide (below_put3 (b := w.heap.size) (B1.out) (by omega) (.int .i64 3) (.int .i64 0) (.string tT))
  replace cv := hide (cv.out.put (.int .i64 3) (.int .i64 0) (.string tT))
  obtain ⟨w1p, hw1p⟩ : ∃ w1p, put3 w1 (w.heap.size) (.int .i64 3) (.int .i64 0) (.string tT) = w1p := ⟨_, rfl⟩
  rw [hw1p] at B1p cv
  unfold put3 at hw1p
  have cvw1p00 := cv.out.1.1
  have cvw1p01 := cv.out.1.2.1
  have cvw1p02 := cv.out.1.2.2
  go_wp2_with fail
  go_ret2
  exact ⟨rfl, B1p.out⟩
set_option maxHeartbeats 1000000 in
theorem vtru_F {k i : Int} {t : ByteArray} (HS : CallIs 95 #[vV k i t] (vV 3 0 tF)) : CallIs 136 #[vV k i t] (.tuple #[.bool false, .int .i64 0]) := by
  intro w
  go_enter Tryz.func136, Tryz.ntmps136
  try simp only [List.append]
  go_wp2_with fail
  refine (HS.out _).mono ?_
  rintro e w1 ⟨rfl, hb1⟩
  have B1 := hide (next (step (Below.refl w.heap.size w) _) hb1)
  have cv := hide ((O3.new w (.int .i64 k) (.int .i64 i) (.string t) 30).keep hb1)
  have cvw100 := cv.out.1.1
  have cvw101 := cv.out.1.2.1
  have cvw102 := cv.out.1.2.2
  have cvw10f := cv.out.2
  have B1p := hide (below_put3 (b := w.heap.size) (B1.out) (by omega) (.int .i64 3) (.int .i64 0) (.string tF))
  replace cv := hide (cv.out.put (.int .i64 3) (.int .i64 0) (.string tF))
  obtain ⟨w1p, hw1p⟩ : ∃ w1p, put3 w1 (w.heap.size) (.int .i64 3) (.int .i64 0) (.string tF) = w1p := ⟨_, rfl⟩
  rw [hw1p] at B1p cv
  unfold put3 at hw1p
  have cvw1p00 := cv.out.1.1
  have cvw1p01 := cv.out.1.2.1
  have cvw1p02 := cv.out.1.2.2
  go_wp2_with fail
  go_ret2
  exact ⟨rfl, B1p.out⟩
set_option maxHeartbeats 1000000 in
theorem vtru_bad {k i : Int} {t : ByteArray} (t' : ByteArray) (hT : (t'.toList == [84, 82, 85, 69]) = false) (hF : (t'.toList == [70, 65, 76, 83, 69]) = false) (HS : CallIs 95 #[vV k i t] (vV 3 0 t')) : CallIs 136 #[vV k i t] (.tuple #[.bool false, .int .i64 4]) := by
  intro w
  go_enter Tryz.func136, Tryz.ntmps136
  try simp only [List.append]
  go_wp2_with fail
  refine (HS.out _).mono ?_
  rintro e w1 ⟨rfl, hb1⟩
  have B1 := hide (next (step (Below.refl w.heap.size w) _) hb1)
  have cv := hide ((O3.new w (.int .i64 k) (.int .i64 i) (.string t) 30).keep hb1)
  have cvw100 := cv.out.1.1
  have cvw101 := cv.out.1.2.1
  have cvw102 := cv.out.1.2.2
  have cvw10f := cv.out.2
  have B1p := hide (below_put3 (b := w.heap.size) (B1.out) (by omega) (.int .i64 3) (.int .i64 0) (.string t'))
  replace cv := hide (cv.out.put (.int .i64 3) (.int .i64 0) (.string t'))
  obtain ⟨w1p, hw1p⟩ : ∃ w1p, put3 w1 (w.heap.size) (.int .i64 3) (.int .i64 0) (.string t') = w1p := ⟨_, rfl⟩
  rw [hw1p] at B1p cv
  unfold put3 at hw1p
  have cvw1p00 := cv.out.1.1
  have cvw1p01 := cv.out.1.2.1
  have cvw1p02 := cv.out.1.2.2
  go_wp2_with fail
  go_ret2
  exact ⟨rfl, B1p.out⟩
end Go.Proofs.YtgnmkhjilecdhaaGreatDoor
