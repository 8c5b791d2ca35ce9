/- What a value is as a truth, by package value, for every value that may be. Proved of the Go text. -/
import Derived.Test.YtchphbclaapfhaaGreatDoorNum15
namespace Go.Proofs.YtchphbclaapfhaaGreatDoor
open Go.RowKit Go.Sort
set_option linter.unusedVariables false

theorem tl_ne15 {t t' : ByteArray} (h : ¬ t = t') : (t.toList == t'.toList) = false := by
  rw [beq_eq_false_iff_ne, ByteArray.toList_eq, ByteArray.toList_eq]
  intro e
  exact h (ByteArray.ext (Array.ext' e))
set_option maxHeartbeats 1000000 in
theorem vtru_true {k i : Int} {t : ByteArray} (k' i' : Int) (t' : ByteArray) (q3 : (k' == 3) = false) (q4 : (k' == 4) = false) (qi : (i' != 0) = true) (HS : CallIs 119 #[vV k i t] (vV k' i' t')) : CallIs 135 #[vV k i t] (.tuple #[.bool true, .int .i64 0]) := by
  intro w
  go_enter Tryz.func135, Tryz.ntmps135
  try simp only [List.append]
  go_wp2_with fail
  refine (HS.out _).mono ?_
  rintro e w1 ⟨rfl, hb1⟩
  have B1 := hide (next (step (Below.refl w.heap.size w) _) hb1)
  have cv := hide ((O3.new w (.int .i64 k) (.int .i64 i) (.string t) 28).keep hb1)
  have cvw100 := cv.out.1.1
  have cvw101 := cv.out.1.2.1
  have cvw102 := cv.out.1.2.2
  have cvw10f := cv.out.2
  have B1p := hide (below_put3 (b := w.heap.size) (B1.out) (by omega) (.int .i64 k') (.int .i64 i') (.string t'))
  replace cv := hide (cv.out.put (.int .i64 k') (.int .i64 i') (.string t'))
  obtain ⟨w1p, hw1p⟩ : ∃ w1p, put3 w1 (w.heap.size) (.int .i64 k') (.int .i64 i') (.string t') = w1p := ⟨_, rfl⟩
  rw [hw1p] at B1p cv
  unfold put3 at hw1p
  have cvw1p00 := cv.out.1.1
  have cvw1p01 := cv.out.1.2.1
  have cvw1p02 := cv.out.1.2.2
  go_wp2_with fail
  go_ret2
  exact ⟨rfl, B1p.out⟩
set_option maxHeartbeats 1000000 in
theorem vtru_false {k i : Int} {t : ByteArray} (k' i' : Int) (t' : ByteArray) (q3 : (k' == 3) = false) (q4 : (k' == 4) = false) (qi : (i' != 0) = false) (HS : CallIs 119 #[vV k i t] (vV k' i' t')) : CallIs 135 #[vV k i t] (.tuple #[.bool false, .int .i64 0]) := by
  intro w
  go_enter Tryz.func135, Tryz.ntmps135
  try simp only [List.append]
  go_wp2_with fail
  refine (HS.out _).mono ?_
  rintro e w1 ⟨rfl, hb1⟩
  have B1 := hide (next (step (Below.refl w.heap.size w) _) hb1)
  have cv := hide ((O3.new w (.int .i64 k) (.int .i64 i) (.string t) 28).keep hb1)
  have cvw100 := cv.out.1.1
  have cvw101 := cv.out.1.2.1
  have cvw102 := cv.out.1.2.2
  have cvw10f := cv.out.2
  have B1p := hide (below_put3 (b := w.heap.size) (B1.out) (by omega) (.int .i64 k') (.int .i64 i') (.string t'))
  replace cv := hide (cv.out.put (.int .i64 k') (.int .i64 i') (.string t'))
  obtain ⟨w1p, hw1p⟩ : ∃ w1p, put3 w1 (w.heap.size) (.int .i64 k') (.int .i64 i') (.string t') = w1p := ⟨_, rfl⟩
  rw [hw1p] at B1p cv
  unfold put3 at hw1p
  have cvw1p00 := cv.out.1.1
  have cvw1p01 := cv.out.1.2.1
  have cvw1p02 := cv.out.1.2.2
  go_wp2_with fail
  go_ret2
  exact ⟨rfl, B1p.out⟩
set_option maxHeartbeats 1000000 in
theorem vtru_err {k i : Int} {t : ByteArray} (e : Int) (HS : CallIs 119 #[vV k i t] (vV 4 e no)) : CallIs 135 #[vV k i t] (.tuple #[.bool false, .int .i64 e]) := by
  intro w
  go_enter Tryz.func135, Tryz.ntmps135
  try simp only [List.append]
  go_wp2_with fail
  refine (HS.out _).mono ?_
  rintro e w1 ⟨rfl, hb1⟩
  have B1 := hide (next (step (Below.refl w.heap.size w) _) hb1)
  have cv := hide ((O3.new w (.int .i64 k) (.int .i64 i) (.string t) 28).keep hb1)
  have cvw100 := cv.out.1.1
  have cvw101 := cv.out.1.2.1
  have cvw102 := cv.out.1.2.2
  have cvw10f := cv.out.2
  have B1p := hide (below_put3 (b := w.heap.size) (B1.out) (by omega) (.int .i64 4) (.int .i64 e) (.string no))
  replace cv := hide (cv.out.put (.int .i64 4) (.int .i64 e) (.string no))
  obtain ⟨w1p, hw1p⟩ : ∃ w1p, put3 w1 (w.heap.size) (.int .i64 4) (.int .i64 e) (.string no) = w1p := ⟨_, rfl⟩
  rw [hw1p] at B1p cv
  unfold put3 at hw1p
  have cvw1p00 := cv.out.1.1
  have cvw1p01 := cv.out.1.2.1
  have cvw1p02 := cv.out.1.2.2
  go_wp2_with fail
  go_quiet (fail)
  go_wp2_with fail
  go_ret2
  exact ⟨rfl, below_drewN (B1p.out) _⟩
set_option maxHeartbeats 1000000 in
theorem vtru_T {k i : Int} {t : ByteArray} (HS : CallIs 119 #[vV k i t] (vV 3 0 tT)) : CallIs 135 #[vV k i t] (.tuple #[.bool true, .int .i64 0]) := by
  intro w
  go_enter Tryz.func135, Tryz.ntmps135
  try simp only [List.append]
  go_wp2_with fail
  refine (HS.out _).mono ?_
  rintro e w1 ⟨rfl, hb1⟩
  have B1 := hide (next (step (Below.refl w.heap.size w) _) hb1)
  have cv := hide ((O3.new w (.int .i64 k) (.int .i64 i) (.string t) 28).keep hb1)
  have cvw100 := cv.out.1.1
  have cvw101 := cv.out.1.2.1
  have cvw102 := cv.out.1.2.2
  have cvw10f := cv.out.2
  have B1p := hide (below_put3 (b := w.heap.size) (B1.out) (by omega) (.int .i64 3) (.int .i64 0) (.string tT))
  replace cv := hide (cv.out.put (.int .i64 3) (.int .i64 0) (.string tT))
  obtain ⟨w1p, hw1p⟩ : ∃ w1p, put3 w1 (w.heap.size) (.int .i64 3) (.int .i64 0) (.string tT) = w1p := ⟨_, rfl⟩
  rw [hw1p] at B1p cv
  unfold put3 at hw1p
  have cvw1p00 := cv.out.1.1
  have cvw1p01 := cv.out.1.2.1
  have cvw1p02 := cv.out.1.2.2
  go_wp2_with fail
  go_ret2
  exact ⟨rfl, B1p.out⟩
set_option maxHeartbeats 1000000 in
theorem vtru_F {k i : Int} {t : ByteArray} (HS : CallIs 119 #[vV k i t] (vV 3 0 tF)) : CallIs 135 #[vV k i t] (.tuple #[.bool false, .int .i64 0]) := by
  intro w
  go_enter Tryz.func135, Tryz.ntmps135
  try simp only [List.append]
  go_wp2_with fail
  refine (HS.out _).mono ?_
  rintro e w1 ⟨rfl, hb1⟩
  have B1 := hide (next (step (Below.refl w.heap.size w) _) hb1)
  have cv := hide ((O3.new w (.int .i64 k) (.int .i64 i) (.string t) 28).keep hb1)
  have cvw100 := cv.out.1.1
  have cvw101 := cv.out.1.2.1
  have cvw102 := cv.out.1.2.2
  have cvw10f := cv.out.2
  have B1p := hide (below_put3 (b := w.heap.size) (B1.out) (by omega) (.int .i64 3) (.int .i64 0) (.string tF))
  replace cv := hide (cv.out.put (.int .i64 3) (.int .i64 0) (.string tF))
  obtain ⟨w1p, hw1p⟩ : ∃ w1p, put3 w1 (w.heap.size) (.int .i64 3) (.int .i64 0) (.string tF) = w1p := ⟨_, rfl⟩
  rw [hw1p] at B1p cv
  unfold put3 at hw1p
  have cvw1p00 := cv.out.1.1
  have cvw1p01 := cv.out.1.2.1
  have cvw1p02 := cv.out.1.2.2
  go_wp2_with fail
  go_ret2
  exact ⟨rfl, B1p.out⟩
set_option maxHeartbeats 1000000 in
theorem vtru_bad {k i : Int} {t : ByteArray} (t' : ByteArray) (hT : (t'.toList == [84, 82, 85, 69]) = false) (hF : (t'.toList == [70, 65, 76, 83, 69]) = false) (HS : CallIs 119 #[vV k i t] (vV 3 0 t')) : CallIs 135 #[vV k i t] (.tuple #[.bool false, .int .i64 4]) := by
  intro w
  go_enter Tryz.func135, Tryz.ntmps135
  try simp only [List.append]
  go_wp2_with fail
  refine (HS.out _).mono ?_
  rintro e w1 ⟨rfl, hb1⟩
  have B1 := hide (next (step (Below.refl w.heap.size w) _) hb1)
  have cv := hide ((O3.new w (.int .i64 k) (.int .i64 i) (.string t) 28).keep hb1)
  have cvw100 := cv.out.1.1
  have cvw101 := cv.out.1.2.1
  have cvw102 := cv.out.1.2.2
  have cvw10f := cv.out.2
  have B1p := hide (below_put3 (b := w.heap.size) (B1.out) (by omega) (.int .i64 3) (.int .i64 0) (.string t'))
  replace cv := hide (cv.out.put (.int .i64 3) (.int .i64 0) (.string t'))
  obtain ⟨w1p, hw1p⟩ : ∃ w1p, put3 w1 (w.heap.size) (.int .i64 3) (.int .i64 0) (.string t') = w1p := ⟨_, rfl⟩
  rw [hw1p] at B1p cv
  unfold put3 at hw1p
  have cvw1p00 := cv.out.1.1
  have cvw1p01 := cv.out.1.2.1
  have cvw1p02 := cv.out.1.2.2
  go_wp2_with fail
  go_ret2
  exact ⟨rfl, B1p.out⟩
theorem tT_list : tT.toList = [84, 82, 85, 69] := by rw [ByteArray.toList_eq]
theorem tF_list : tF.toList = [70, 65, 76, 83, 69] := by rw [ByteArray.toList_eq]
theorem tru_ex (x : Va) (hx : VaOk x) : ∃ p : Bool × Int, CallIs 135 #[x.v] (.tuple #[.bool p.1, .int .i64 p.2]) ∧ (x.k = 2 → p = (x.i != 0, 0)) := by
  obtain ⟨k, i, t⟩ := x
  obtain ⟨hg, h1, h2⟩ := hx
  simp only at hg h1 h2
  have hs := sound_good hg
  rcases hg with ⟨rfl, rfl, rfl⟩ | ⟨rfl, rfl⟩ | ⟨rfl, _, rfl⟩ | ⟨rfl, rfl, ht⟩ | ⟨rfl, _, rfl⟩
  · exact ⟨(false, 0), vtru_false 0 0 no rfl rfl rfl hs, fun h => by cases h⟩
  · cases hq : (i != 0) with
    | true => exact ⟨(true, 0), vtru_true 1 i no rfl rfl hq hs, fun h => by cases h⟩
    | false => exact ⟨(false, 0), vtru_false 1 i no rfl rfl hq hs, fun h => by cases h⟩
  · cases hq : (i != 0) with
    | true => exact ⟨(true, 0), vtru_true 2 i no rfl rfl hq hs, fun _ => rfl⟩
    | false => exact ⟨(false, 0), vtru_false 2 i no rfl rfl hq hs, fun _ => rfl⟩
  · by_cases hT : t = tT
    · subst hT; exact ⟨(true, 0), vtru_T hs, fun h => by cases h⟩
    · by_cases hF : t = tF
      · subst hF; exact ⟨(false, 0), vtru_F hs, fun h => by cases h⟩
      · exact ⟨(false, 4), vtru_bad t (tT_list ▸ tl_ne15 hT) (tF_list ▸ tl_ne15 hF) hs, fun h => by cases h⟩
  · exact ⟨(false, i), vtru_err i hs, fun h => by cases h⟩
/-- A value as a truth, and the error. -/
def TruIs (tr : Va → Bool × Int) : Prop := ∀ x, VaOk x → CallIs 135 #[x.v] (.tuple #[.bool (tr x).1, .int .i64 (tr x).2]) ∧ (x.k = 2 → tr x = (x.i != 0, 0))
theorem tru_is : ∃ tr, TruIs tr := ⟨fun x => Classical.epsilon fun p => CallIs 135 #[x.v] (.tuple #[.bool p.1, .int .i64 p.2]) ∧ (x.k = 2 → p = (x.i != 0, 0)), fun x hx => Classical.epsilon_spec (p := fun p => CallIs 135 #[x.v] (.tuple #[.bool p.1, .int .i64 p.2]) ∧ (x.k = 2 → p = (x.i != 0, 0))) (tru_ex x hx)⟩
end Go.Proofs.YtchphbclaapfhaaGreatDoor
