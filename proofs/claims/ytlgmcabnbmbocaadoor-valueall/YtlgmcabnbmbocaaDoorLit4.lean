/- What a cell's text is worth, by package value and by the reference, form by form. Proved of the Go text. -/
import Derived.Test.YtlgmcabnbmbocaaDoorShow4
namespace Go.Proofs.YtlgmcabnbmbocaaDoor
open Go.RowKit Go.Sort
set_option linter.unusedVariables false

set_option maxHeartbeats 1000000 in
theorem textv_is (k' i' : Int) (t' : ByteArray) (s : ByteArray) (HS : CallIs 27 #[vV 3 0 s] (vV k' i' t')) : CallIs 29 #[.string s] (vV k' i' t') := by
  intro w
  go_enter Tryd.func29, Tryd.ntmps29
  try simp only [List.append]
  go_wp2_with fail
  refine (HS.out _).mono ?_
  rintro e w1 ⟨rfl, hb1⟩
  have B1 := hide (next (step (Below.refl w.heap.size w) _) hb1)
  have cr := hide ((O3.new w (.int .i64 0) (.int .i64 0) (.string no) 26).keep hb1)
  have crw100 := cr.out.1.1
  have crw101 := cr.out.1.2.1
  have crw102 := cr.out.1.2.2
  have crw10f := cr.out.2
  have B1p := hide (below_put3 (b := w.heap.size) (B1.out) (by omega) (.int .i64 k') (.int .i64 i') (.string t'))
  replace cr := hide (cr.out.put (.int .i64 k') (.int .i64 i') (.string t'))
  obtain ⟨w1p, hw1p⟩ : ∃ w1p, put3 w1 (w.heap.size) (.int .i64 k') (.int .i64 i') (.string t') = w1p := ⟨_, rfl⟩
  rw [hw1p] at B1p cr
  unfold put3 at hw1p
  have crw1p00 := cr.out.1.1
  have crw1p01 := cr.out.1.2.1
  have crw1p02 := cr.out.1.2.2
  go_wp2_with fail
  refine bodyPost_ret (by simp [results, Tryd.results29, go_sem, crw1p00, crw1p01, crw1p02]; try rfl) rfl ?_
  exact ⟨rfl, B1p.out⟩
set_option maxHeartbeats 1000000 in
theorem rtext_good (s : ByteArray) (h : s.size ≤ 32767) : CallIs 43 #[.string s] (vV 3 0 s) := by
  intro w
  have hz : ¬ (32767 : Int) < s.size := by omega
  go_enter Tryd.func43, Tryd.ntmps43
  try simp only [List.append]
  go_wp2_with fail
  go_returns
  exact ⟨rfl, by go_grown⟩
set_option maxHeartbeats 1000000 in
theorem rtext_bad (s : ByteArray) (h : ¬ s.size ≤ 32767) : CallIs 43 #[.string s] (vV 4 4 no) := by
  intro w
  have hz : (32767 : Int) < s.size := by omega
  have HE := rerr_is 4
  go_enter Tryd.func43, Tryd.ntmps43
  try simp only [List.append]
  go_wp2_with fail
  refine (HE.out _).mono ?_
  rintro e w1 ⟨rfl, hb1⟩
  have B1 := hide (next (step (Below.refl w.heap.size w) _) hb1)
  have cr := hide ((O3.new w (.int .i64 0) (.int .i64 0) (.string no) 26).keep hb1)
  have crw100 := cr.out.1.1
  have crw101 := cr.out.1.2.1
  have crw102 := cr.out.1.2.2
  have crw10f := cr.out.2
  have B1p := hide (below_put3 (b := w.heap.size) (B1.out) (by omega) (.int .i64 4) (.int .i64 4) (.string no))
  replace cr := hide (cr.out.put (.int .i64 4) (.int .i64 4) (.string no))
  obtain ⟨w1p, hw1p⟩ : ∃ w1p, put3 w1 (w.heap.size) (.int .i64 4) (.int .i64 4) (.string no) = w1p := ⟨_, rfl⟩
  rw [hw1p] at B1p cr
  unfold put3 at hw1p
  have crw1p00 := cr.out.1.1
  have crw1p01 := cr.out.1.2.1
  have crw1p02 := cr.out.1.2.2
  go_wp2_with fail
  refine bodyPost_ret (by simp [results, Tryd.results43, go_sem, crw1p00, crw1p01, crw1p02]; try rfl) rfl ?_
  exact ⟨rfl, B1p.out⟩
set_option maxHeartbeats 1000000 in
theorem plain_num (s : ByteArray) (n : Int) (HR : CallIs 31 #[.string s] (.tuple #[.int .i64 n, .int .i64 0])) : CallIs 30 #[.string s] (vV 1 n no) := by
  intro w
  go_enter Tryd.func30, Tryd.ntmps30
  try simp only [List.append]
  go_wp2_with fail
  refine (HR.out _).mono ?_
  rintro e w1 ⟨rfl, hb1⟩
  have B1 := hide (next (step (Below.refl w.heap.size w) _) hb1)
  have cr := hide ((O3.new w (.int .i64 0) (.int .i64 0) (.string no) 26).keep hb1)
  have HN := number_is n
  go_wp2_with fail
  refine (HN.out _).mono ?_
  rintro e w2 ⟨rfl, hb2⟩
  have B2 := hide (next (B1.out) hb2)
  replace cr := hide (cr.out.keep hb2)
  have crw200 := cr.out.1.1
  have crw201 := cr.out.1.2.1
  have crw202 := cr.out.1.2.2
  have crw20f := cr.out.2
  have B2p := hide (below_put3 (b := w.heap.size) (B2.out) (by omega) (.int .i64 1) (.int .i64 n) (.string no))
  replace cr := hide (cr.out.put (.int .i64 1) (.int .i64 n) (.string no))
  obtain ⟨w2p, hw2p⟩ : ∃ w2p, put3 w2 (w.heap.size) (.int .i64 1) (.int .i64 n) (.string no) = w2p := ⟨_, rfl⟩
  rw [hw2p] at B2p cr
  unfold put3 at hw2p
  have crw2p00 := cr.out.1.1
  have crw2p01 := cr.out.1.2.1
  have crw2p02 := cr.out.1.2.2
  go_wp2_with fail
  refine bodyPost_ret (by simp [results, Tryd.results30, go_sem, crw2p00, crw2p01, crw2p02]; try rfl) rfl ?_
  exact ⟨rfl, B2p.out⟩
set_option maxHeartbeats 1000000 in
theorem plain_tT (n x : Int) (hx : (x == 0) = false) (HR : CallIs 31 #[.string tT] (.tuple #[.int .i64 n, .int .i64 x])) : CallIs 30 #[.string tT] (vV 2 1 no) := by
  intro w
  go_enter Tryd.func30, Tryd.ntmps30
  try simp only [List.append]
  go_wp2_with fail
  refine (HR.out _).mono ?_
  rintro e w1 ⟨rfl, hb1⟩
  have B1 := hide (next (step (Below.refl w.heap.size w) _) hb1)
  have cr := hide ((O3.new w (.int .i64 0) (.int .i64 0) (.string no) 26).keep hb1)
  have HN := truth_yes
  go_wp2_with fail
  refine (HN.out _).mono ?_
  rintro e w2 ⟨rfl, hb2⟩
  have B2 := hide (next (B1.out) hb2)
  replace cr := hide (cr.out.keep hb2)
  have crw200 := cr.out.1.1
  have crw201 := cr.out.1.2.1
  have crw202 := cr.out.1.2.2
  have crw20f := cr.out.2
  have B2p := hide (below_put3 (b := w.heap.size) (B2.out) (by omega) (.int .i64 2) (.int .i64 1) (.string no))
  replace cr := hide (cr.out.put (.int .i64 2) (.int .i64 1) (.string no))
  obtain ⟨w2p, hw2p⟩ : ∃ w2p, put3 w2 (w.heap.size) (.int .i64 2) (.int .i64 1) (.string no) = w2p := ⟨_, rfl⟩
  rw [hw2p] at B2p cr
  unfold put3 at hw2p
  have crw2p00 := cr.out.1.1
  have crw2p01 := cr.out.1.2.1
  have crw2p02 := cr.out.1.2.2
  go_wp2_with fail
  refine bodyPost_ret (by simp [results, Tryd.results30, go_sem, crw2p00, crw2p01, crw2p02]; try rfl) rfl ?_
  exact ⟨rfl, B2p.out⟩
set_option maxHeartbeats 1000000 in
theorem plain_tF (n x : Int) (hx : (x == 0) = false) (HR : CallIs 31 #[.string tF] (.tuple #[.int .i64 n, .int .i64 x])) : CallIs 30 #[.string tF] (vV 2 0 no) := by
  intro w
  go_enter Tryd.func30, Tryd.ntmps30
  try simp only [List.append]
  go_wp2_with fail
  refine (HR.out _).mono ?_
  rintro e w1 ⟨rfl, hb1⟩
  have B1 := hide (next (step (Below.refl w.heap.size w) _) hb1)
  have cr := hide ((O3.new w (.int .i64 0) (.int .i64 0) (.string no) 26).keep hb1)
  have HN := truth_no
  go_wp2_with fail
  refine (HN.out _).mono ?_
  rintro e w2 ⟨rfl, hb2⟩
  have B2 := hide (next (B1.out) hb2)
  replace cr := hide (cr.out.keep hb2)
  have crw200 := cr.out.1.1
  have crw201 := cr.out.1.2.1
  have crw202 := cr.out.1.2.2
  have crw20f := cr.out.2
  have B2p := hide (below_put3 (b := w.heap.size) (B2.out) (by omega) (.int .i64 2) (.int .i64 0) (.string no))
  replace cr := hide (cr.out.put (.int .i64 2) (.int .i64 0) (.string no))
  obtain ⟨w2p, hw2p⟩ : ∃ w2p, put3 w2 (w.heap.size) (.int .i64 2) (.int .i64 0) (.string no) = w2p := ⟨_, rfl⟩
  rw [hw2p] at B2p cr
  unfold put3 at hw2p
  have crw2p00 := cr.out.1.1
  have crw2p01 := cr.out.1.2.1
  have crw2p02 := cr.out.1.2.2
  go_wp2_with fail
  refine bodyPost_ret (by simp [results, Tryd.results30, go_sem, crw2p00, crw2p01, crw2p02]; try rfl) rfl ?_
  exact ⟨rfl, B2p.out⟩
set_option maxHeartbeats 1000000 in
theorem plain_e1 (n x : Int) (hx : (x == 0) = false) (HR : CallIs 31 #[.string e1T] (.tuple #[.int .i64 n, .int .i64 x])) : CallIs 30 #[.string e1T] (vV 4 1 no) := by
  intro w
  go_enter Tryd.func30, Tryd.ntmps30
  try simp only [List.append]
  go_wp2_with fail
  refine (HR.out _).mono ?_
  rintro e w1 ⟨rfl, hb1⟩
  have B1 := hide (next (step (Below.refl w.heap.size w) _) hb1)
  have cr := hide ((O3.new w (.int .i64 0) (.int .i64 0) (.string no) 26).keep hb1)
  go_wp2_with fail
  go_loopw [5] (fun i wr => ∃ j : Nat, (1 ≤ j ∧ j ≤ 1) ∧ i = .int .i64 j ∧ Hid (Below w.heap.size w wr) ∧ Hid (O3 wr w.heap.size (.int .i64 0) (.int .i64 0) (.string no))) (fun i _ => 7 - (intOf i).toNat)
  case atStart => exact ⟨1, by omega, rfl, B1, cr⟩
  case round =>
    obtain ⟨j, hj, rfl, B1, cr⟩ := hrel
    obtain rfl : j = 1 := by omega
    · clear hj
      have HE := etext1
      have HN := fault_is 1
      go_wp2_with fail
      refine (HE.out _).mono ?_
      rintro e w2 ⟨rfl, hb2⟩
      have B2 := hide (next (B1.out) hb2)
      replace cr := hide (cr.out.keep hb2)
      go_wp2_with fail
      refine (HN.out _).mono ?_
      rintro e w3 ⟨rfl, hb3⟩
      have B3 := hide (next (B2.out) hb3)
      replace cr := hide (cr.out.keep hb3)
      have crw300 := cr.out.1.1
      have crw301 := cr.out.1.2.1
      have crw302 := cr.out.1.2.2
      have crw30f := cr.out.2
      have B3p := hide (below_put3 (b := w.heap.size) (B3.out) (by omega) (.int .i64 4) (.int .i64 1) (.string no))
      replace cr := hide (cr.out.put (.int .i64 4) (.int .i64 1) (.string no))
      obtain ⟨w3p, hw3p⟩ : ∃ w3p, put3 w3 (w.heap.size) (.int .i64 4) (.int .i64 1) (.string no) = w3p := ⟨_, rfl⟩
      rw [hw3p] at B3p cr
      unfold put3 at hw3p
      have crw3p00 := cr.out.1.1
      have crw3p01 := cr.out.1.2.1
      have crw3p02 := cr.out.1.2.2
      go_wp2_with fail
      refine bodyPost_ret (by simp [results, Tryd.results30, go_sem, crw3p00, crw3p01, crw3p02]; try rfl) rfl ?_
      exact ⟨rfl, B3p.out⟩
set_option maxHeartbeats 1000000 in
theorem plain_e2 (n x : Int) (hx : (x == 0) = false) (HR : CallIs 31 #[.string e2T] (.tuple #[.int .i64 n, .int .i64 x])) : CallIs 30 #[.string e2T] (vV 4 2 no) := by
  intro w
  go_enter Tryd.func30, Tryd.ntmps30
  try simp only [List.append]
  go_wp2_with fail
  refine (HR.out _).mono ?_
  rintro e w1 ⟨rfl, hb1⟩
  have B1 := hide (next (step (Below.refl w.heap.size w) _) hb1)
  have cr := hide ((O3.new w (.int .i64 0) (.int .i64 0) (.string no) 26).keep hb1)
  go_wp2_with fail
  go_loopw [5] (fun i wr => ∃ j : Nat, (1 ≤ j ∧ j ≤ 2) ∧ i = .int .i64 j ∧ Hid (Below w.heap.size w wr) ∧ Hid (O3 wr w.heap.size (.int .i64 0) (.int .i64 0) (.string no))) (fun i _ => 7 - (intOf i).toNat)
  case atStart => exact ⟨1, by omega, rfl, B1, cr⟩
  case round =>
    obtain ⟨j, hj, rfl, B1, cr⟩ := hrel
    obtain rfl | rfl : j = 1 ∨ j = 2 := by omega
    · clear hj
      have HE := etext1
      go_wp2_with fail
      refine (HE.out _).mono ?_
      rintro e w2 ⟨rfl, hb2⟩
      have B2 := hide (next B1.out hb2)
      replace cr := hide (cr.out.keep hb2)
      go_wp2_with fail
      go_roundw
      case rel => exact ⟨2, by omega, by go_num, B2, cr⟩
      case measure => simp [intOf]
    · clear hj
      have HE := etext2
      have HN := fault_is 2
      go_wp2_with fail
      refine (HE.out _).mono ?_
      rintro e w2 ⟨rfl, hb2⟩
      have B2 := hide (next (B1.out) hb2)
      replace cr := hide (cr.out.keep hb2)
      go_wp2_with fail
      refine (HN.out _).mono ?_
      rintro e w3 ⟨rfl, hb3⟩
      have B3 := hide (next (B2.out) hb3)
      replace cr := hide (cr.out.keep hb3)
      have crw300 := cr.out.1.1
      have crw301 := cr.out.1.2.1
      have crw302 := cr.out.1.2.2
      have crw30f := cr.out.2
      have B3p := hide (below_put3 (b := w.heap.size) (B3.out) (by omega) (.int .i64 4) (.int .i64 2) (.string no))
      replace cr := hide (cr.out.put (.int .i64 4) (.int .i64 2) (.string no))
      obtain ⟨w3p, hw3p⟩ : ∃ w3p, put3 w3 (w.heap.size) (.int .i64 4) (.int .i64 2) (.string no) = w3p := ⟨_, rfl⟩
      rw [hw3p] at B3p cr
      unfold put3 at hw3p
      have crw3p00 := cr.out.1.1
      have crw3p01 := cr.out.1.2.1
      have crw3p02 := cr.out.1.2.2
      go_wp2_with fail
      refine bodyPost_ret (by simp [results, Tryd.results30, go_sem, crw3p00, crw3p01, crw3p02]; try rfl) rfl ?_
      exact ⟨rfl, B3p.out⟩
set_option maxHeartbeats 1000000 in
theorem plain_e3 (n x : Int) (hx : (x == 0) = false) (HR : CallIs 31 #[.string e3T] (.tuple #[.int .i64 n, .int .i64 x])) : CallIs 30 #[.string e3T] (vV 4 3 no) := by
  intro w
  go_enter Tryd.func30, Tryd.ntmps30
  try simp only [List.append]
  go_wp2_with fail
  refine (HR.out _).mono ?_
  rintro e w1 ⟨rfl, hb1⟩
  have B1 := hide (next (step (Below.refl w.heap.size w) _) hb1)
  have cr := hide ((O3.new w (.int .i64 0) (.int .i64 0) (.string no) 26).keep hb1)
  go_wp2_with fail
  go_loopw [5] (fun i wr => ∃ j : Nat, (1 ≤ j ∧ j ≤ 3) ∧ i = .int .i64 j ∧ Hid (Below w.heap.size w wr) ∧ Hid (O3 wr w.heap.size (.int .i64 0) (.int .i64 0) (.string no))) (fun i _ => 7 - (intOf i).toNat)
  case atStart => exact ⟨1, by omega, rfl, B1, cr⟩
  case round =>
    obtain ⟨j, hj, rfl, B1, cr⟩ := hrel
    obtain rfl | rfl | rfl : j = 1 ∨ j = 2 ∨ j = 3 := by omega
    · clear hj
      have HE := etext1
      go_wp2_with fail
      refine (HE.out _).mono ?_
      rintro e w2 ⟨rfl, hb2⟩
      have B2 := hide (next B1.out hb2)
      replace cr := hide (cr.out.keep hb2)
      go_wp2_with fail
      go_roundw
      case rel => exact ⟨2, by omega, by go_num, B2, cr⟩
      case measure => simp [intOf]
    · clear hj
      have HE := etext2
      go_wp2_with fail
      refine (HE.out _).mono ?_
      rintro e w2 ⟨rfl, hb2⟩
      have B2 := hide (next B1.out hb2)
      replace cr := hide (cr.out.keep hb2)
      go_wp2_with fail
      go_roundw
      case rel => exact ⟨3, by omega, by go_num, B2, cr⟩
      case measure => simp [intOf]
    · clear hj
      have HE := etext3
      have HN := fault_is 3
      go_wp2_with fail
      refine (HE.out _).mono ?_
      rintro e w2 ⟨rfl, hb2⟩
      have B2 := hide (next (B1.out) hb2)
      replace cr := hide (cr.out.keep hb2)
      go_wp2_with fail
      refine (HN.out _).mono ?_
      rintro e w3 ⟨rfl, hb3⟩
      have B3 := hide (next (B2.out) hb3)
      replace cr := hide (cr.out.keep hb3)
      have crw300 := cr.out.1.1
      have crw301 := cr.out.1.2.1
      have crw302 := cr.out.1.2.2
      have crw30f := cr.out.2
      have B3p := hide (below_put3 (b := w.heap.size) (B3.out) (by omega) (.int .i64 4) (.int .i64 3) (.string no))
      replace cr := hide (cr.out.put (.int .i64 4) (.int .i64 3) (.string no))
      obtain ⟨w3p, hw3p⟩ : ∃ w3p, put3 w3 (w.heap.size) (.int .i64 4) (.int .i64 3) (.string no) = w3p := ⟨_, rfl⟩
      rw [hw3p] at B3p cr
      unfold put3 at hw3p
      have crw3p00 := cr.out.1.1
      have crw3p01 := cr.out.1.2.1
      have crw3p02 := cr.out.1.2.2
      go_wp2_with fail
      refine bodyPost_ret (by simp [results, Tryd.results30, go_sem, crw3p00, crw3p01, crw3p02]; try rfl) rfl ?_
      exact ⟨rfl, B3p.out⟩
set_option maxHeartbeats 1000000 in
theorem plain_e4 (n x : Int) (hx : (x == 0) = false) (HR : CallIs 31 #[.string e4T] (.tuple #[.int .i64 n, .int .i64 x])) : CallIs 30 #[.string e4T] (vV 4 4 no) := by
  intro w
  go_enter Tryd.func30, Tryd.ntmps30
  try simp only [List.append]
  go_wp2_with fail
  refine (HR.out _).mono ?_
  rintro e w1 ⟨rfl, hb1⟩
  have B1 := hide (next (step (Below.refl w.heap.size w) _) hb1)
  have cr := hide ((O3.new w (.int .i64 0) (.int .i64 0) (.string no) 26).keep hb1)
  go_wp2_with fail
  go_loopw [5] (fun i wr => ∃ j : Nat, (1 ≤ j ∧ j ≤ 4) ∧ i = .int .i64 j ∧ Hid (Below w.heap.size w wr) ∧ Hid (O3 wr w.heap.size (.int .i64 0) (.int .i64 0) (.string no))) (fun i _ => 7 - (intOf i).toNat)
  case atStart => exact ⟨1, by omega, rfl, B1, cr⟩
  case round =>
    obtain ⟨j, hj, rfl, B1, cr⟩ := hrel
    obtain rfl | rfl | rfl | rfl : j = 1 ∨ j = 2 ∨ j = 3 ∨ j = 4 := by omega
    · clear hj
      have HE := etext1
      go_wp2_with fail
      refine (HE.out _).mono ?_
      rintro e w2 ⟨rfl, hb2⟩
      have B2 := hide (next B1.out hb2)
      replace cr := hide (cr.out.keep hb2)
      go_wp2_with fail
      go_roundw
      case rel => exact ⟨2, by omega, by go_num, B2, cr⟩
      case measure => simp [intOf]
    · clear hj
      have HE := etext2
      go_wp2_with fail
      refine (HE.out _).mono ?_
      rintro e w2 ⟨rfl, hb2⟩
      have B2 := hide (next B1.out hb2)
      replace cr := hide (cr.out.keep hb2)
      go_wp2_with fail
      go_roundw
      case rel => exact ⟨3, by omega, by go_num, B2, cr⟩
      case measure => simp [intOf]
    · clear hj
      have HE := etext3
      go_wp2_with fail
      refine (HE.out _).mono ?_
      rintro e w2 ⟨rfl, hb2⟩
      have B2 := hide (next B1.out hb2)
      replace cr := hide (cr.out.keep hb2)
      go_wp2_with fail
      go_roundw
      case rel => exact ⟨4, by omega, by go_num, B2, cr⟩
      case measure => simp [intOf]
    · clear hj
      have HE := etext4
      have HN := fault_is 4
      go_wp2_with fail
      refine (HE.out _).mono ?_
      rintro e w2 ⟨rfl, hb2⟩
      have B2 := hide (next (B1.out) hb2)
      replace cr := hide (cr.out.keep hb2)
      go_wp2_with fail
      refine (HN.out _).mono ?_
      rintro e w3 ⟨rfl, hb3⟩
      have B3 := hide (next (B2.out) hb3)
      replace cr := hide (cr.out.keep hb3)
      have crw300 := cr.out.1.1
      have crw301 := cr.out.1.2.1
      have crw302 := cr.out.1.2.2
      have crw30f := cr.out.2
      have B3p := hide (below_put3 (b := w.heap.size) (B3.out) (by omega) (.int .i64 4) (.int .i64 4) (.string no))
      replace cr := hide (cr.out.put (.int .i64 4) (.int .i64 4) (.string no))
      obtain ⟨w3p, hw3p⟩ : ∃ w3p, put3 w3 (w.heap.size) (.int .i64 4) (.int .i64 4) (.string no) = w3p := ⟨_, rfl⟩
      rw [hw3p] at B3p cr
      unfold put3 at hw3p
      have crw3p00 := cr.out.1.1
      have crw3p01 := cr.out.1.2.1
      have crw3p02 := cr.out.1.2.2
      go_wp2_with fail
      refine bodyPost_ret (by simp [results, Tryd.results30, go_sem, crw3p00, crw3p01, crw3p02]; try rfl) rfl ?_
      exact ⟨rfl, B3p.out⟩
set_option maxHeartbeats 1000000 in
theorem plain_e5 (n x : Int) (hx : (x == 0) = false) (HR : CallIs 31 #[.string e5T] (.tuple #[.int .i64 n, .int .i64 x])) : CallIs 30 #[.string e5T] (vV 4 5 no) := by
  intro w
  go_enter Tryd.func30, Tryd.ntmps30
  try simp only [List.append]
  go_wp2_with fail
  refine (HR.out _).mono ?_
  rintro e w1 ⟨rfl, hb1⟩
  have B1 := hide (next (step (Below.refl w.heap.size w) _) hb1)
  have cr := hide ((O3.new w (.int .i64 0) (.int .i64 0) (.string no) 26).keep hb1)
  go_wp2_with fail
  go_loopw [5] (fun i wr => ∃ j : Nat, (1 ≤ j ∧ j ≤ 5) ∧ i = .int .i64 j ∧ Hid (Below w.heap.size w wr) ∧ Hid (O3 wr w.heap.size (.int .i64 0) (.int .i64 0) (.string no))) (fun i _ => 7 - (intOf i).toNat)
  case atStart => exact ⟨1, by omega, rfl, B1, cr⟩
  case round =>
    obtain ⟨j, hj, rfl, B1, cr⟩ := hrel
    obtain rfl | rfl | rfl | rfl | rfl : j = 1 ∨ j = 2 ∨ j = 3 ∨ j = 4 ∨ j = 5 := by omega
    · clear hj
      have HE := etext1
      go_wp2_with fail
      refine (HE.out _).mono ?_
      rintro e w2 ⟨rfl, hb2⟩
      have B2 := hide (next B1.out hb2)
      replace cr := hide (cr.out.keep hb2)
      go_wp2_with fail
      go_roundw
      case rel => exact ⟨2, by omega, by go_num, B2, cr⟩
      case measure => simp [intOf]
    · clear hj
      have HE := etext2
      go_wp2_with fail
      refine (HE.out _).mono ?_
      rintro e w2 ⟨rfl, hb2⟩
      have B2 := hide (next B1.out hb2)
      replace cr := hide (cr.out.keep hb2)
      go_wp2_with fail
      go_roundw
      case rel => exact ⟨3, by omega, by go_num, B2, cr⟩
      case measure => simp [intOf]
    · clear hj
      have HE := etext3
      go_wp2_with fail
      refine (HE.out _).mono ?_
      rintro e w2 ⟨rfl, hb2⟩
      have B2 := hide (next B1.out hb2)
      replace cr := hide (cr.out.keep hb2)
      go_wp2_with fail
      go_roundw
      case rel => exact ⟨4, by omega, by go_num, B2, cr⟩
      case measure => simp [intOf]
    · clear hj
      have HE := etext4
      go_wp2_with fail
      refine (HE.out _).mono ?_
      rintro e w2 ⟨rfl, hb2⟩
      have B2 := hide (next B1.out hb2)
      replace cr := hide (cr.out.keep hb2)
      go_wp2_with fail
      go_roundw
      case rel => exact ⟨5, by omega, by go_num, B2, cr⟩
      case measure => simp [intOf]
    · clear hj
      have HE := etext5
      have HN := fault_is 5
      go_wp2_with fail
      refine (HE.out _).mono ?_
      rintro e w2 ⟨rfl, hb2⟩
      have B2 := hide (next (B1.out) hb2)
      replace cr := hide (cr.out.keep hb2)
      go_wp2_with fail
      refine (HN.out _).mono ?_
      rintro e w3 ⟨rfl, hb3⟩
      have B3 := hide (next (B2.out) hb3)
      replace cr := hide (cr.out.keep hb3)
      have crw300 := cr.out.1.1
      have crw301 := cr.out.1.2.1
      have crw302 := cr.out.1.2.2
      have crw30f := cr.out.2
      have B3p := hide (below_put3 (b := w.heap.size) (B3.out) (by omega) (.int .i64 4) (.int .i64 5) (.string no))
      replace cr := hide (cr.out.put (.int .i64 4) (.int .i64 5) (.string no))
      obtain ⟨w3p, hw3p⟩ : ∃ w3p, put3 w3 (w.heap.size) (.int .i64 4) (.int .i64 5) (.string no) = w3p := ⟨_, rfl⟩
      rw [hw3p] at B3p cr
      unfold put3 at hw3p
      have crw3p00 := cr.out.1.1
      have crw3p01 := cr.out.1.2.1
      have crw3p02 := cr.out.1.2.2
      go_wp2_with fail
      refine bodyPost_ret (by simp [results, Tryd.results30, go_sem, crw3p00, crw3p01, crw3p02]; try rfl) rfl ?_
      exact ⟨rfl, B3p.out⟩
set_option maxHeartbeats 1000000 in
theorem plain_e6 (n x : Int) (hx : (x == 0) = false) (HR : CallIs 31 #[.string e6T] (.tuple #[.int .i64 n, .int .i64 x])) : CallIs 30 #[.string e6T] (vV 4 6 no) := by
  intro w
  go_enter Tryd.func30, Tryd.ntmps30
  try simp only [List.append]
  go_wp2_with fail
  refine (HR.out _).mono ?_
  rintro e w1 ⟨rfl, hb1⟩
  have B1 := hide (next (step (Below.refl w.heap.size w) _) hb1)
  have cr := hide ((O3.new w (.int .i64 0) (.int .i64 0) (.string no) 26).keep hb1)
  go_wp2_with fail
  go_loopw [5] (fun i wr => ∃ j : Nat, (1 ≤ j ∧ j ≤ 6) ∧ i = .int .i64 j ∧ Hid (Below w.heap.size w wr) ∧ Hid (O3 wr w.heap.size (.int .i64 0) (.int .i64 0) (.string no))) (fun i _ => 7 - (intOf i).toNat)
  case atStart => exact ⟨1, by omega, rfl, B1, cr⟩
  case round =>
    obtain ⟨j, hj, rfl, B1, cr⟩ := hrel
    obtain rfl | rfl | rfl | rfl | rfl | rfl : j = 1 ∨ j = 2 ∨ j = 3 ∨ j = 4 ∨ j = 5 ∨ j = 6 := by omega
    · clear hj
      have HE := etext1
      go_wp2_with fail
      refine (HE.out _).mono ?_
      rintro e w2 ⟨rfl, hb2⟩
      have B2 := hide (next B1.out hb2)
      replace cr := hide (cr.out.keep hb2)
      go_wp2_with fail
      go_roundw
      case rel => exact ⟨2, by omega, by go_num, B2, cr⟩
      case measure => simp [intOf]
    · clear hj
      have HE := etext2
      go_wp2_with fail
      refine (HE.out _).mono ?_
      rintro e w2 ⟨rfl, hb2⟩
      have B2 := hide (next B1.out hb2)
      replace cr := hide (cr.out.keep hb2)
      go_wp2_with fail
      go_roundw
      case rel => exact ⟨3, by omega, by go_num, B2, cr⟩
      case measure => simp [intOf]
    · clear hj
      have HE := etext3
      go_wp2_with fail
      refine (HE.out _).mono ?_
      rintro e w2 ⟨rfl, hb2⟩
      have B2 := hide (next B1.out hb2)
      replace cr := hide (cr.out.keep hb2)
      go_wp2_with fail
      go_roundw
      case rel => exact ⟨4, by omega, by go_num, B2, cr⟩
      case measure => simp [intOf]
    · clear hj
      have HE := etext4
      go_wp2_with fail
      refine (HE.out _).mono ?_
      rintro e w2 ⟨rfl, hb2⟩
      have B2 := hide (next B1.out hb2)
      replace cr := hide (cr.out.keep hb2)
      go_wp2_with fail
      go_roundw
      case rel => exact ⟨5, by omega, by go_num, B2, cr⟩
      case measure => simp [intOf]
    · clear hj
      have HE := etext5
      go_wp2_with fail
      refine (HE.out _).mono ?_
      rintro e w2 ⟨rfl, hb2⟩
      have B2 := hide (next B1.out hb2)
      replace cr := hide (cr.out.keep hb2)
      go_wp2_with fail
      go_roundw
      case rel => exact ⟨6, by omega, by go_num, B2, cr⟩
      case measure => simp [intOf]
    · clear hj
      have HE := etext6
      have HN := fault_is 6
      go_wp2_with fail
      refine (HE.out _).mono ?_
      rintro e w2 ⟨rfl, hb2⟩
      have B2 := hide (next (B1.out) hb2)
      replace cr := hide (cr.out.keep hb2)
      go_wp2_with fail
      refine (HN.out _).mono ?_
      rintro e w3 ⟨rfl, hb3⟩
      have B3 := hide (next (B2.out) hb3)
      replace cr := hide (cr.out.keep hb3)
      have crw300 := cr.out.1.1
      have crw301 := cr.out.1.2.1
      have crw302 := cr.out.1.2.2
      have crw30f := cr.out.2
      have B3p := hide (below_put3 (b := w.heap.size) (B3.out) (by omega) (.int .i64 4) (.int .i64 6) (.string no))
      replace cr := hide (cr.out.put (.int .i64 4) (.int .i64 6) (.string no))
      obtain ⟨w3p, hw3p⟩ : ∃ w3p, put3 w3 (w.heap.size) (.int .i64 4) (.int .i64 6) (.string no) = w3p := ⟨_, rfl⟩
      rw [hw3p] at B3p cr
      unfold put3 at hw3p
      have crw3p00 := cr.out.1.1
      have crw3p01 := cr.out.1.2.1
      have crw3p02 := cr.out.1.2.2
      go_wp2_with fail
      refine bodyPost_ret (by simp [results, Tryd.results30, go_sem, crw3p00, crw3p01, crw3p02]; try rfl) rfl ?_
      exact ⟨rfl, B3p.out⟩
set_option maxHeartbeats 2000000 in
theorem plain_text (s : ByteArray) (k' i' : Int) (t' : ByteArray) (n x : Int) (hx : (x == 0) = false) (hT : (s.toList == [84, 82, 85, 69]) = false) (hF : (s.toList == [70, 65, 76, 83, 69]) = false) (n1 : (s.toList == [35, 78, 65, 77, 69, 63]) = false) (n2 : (s.toList == [35, 78, 85, 77, 33]) = false) (n3 : (s.toList == [35, 82, 69, 70, 33]) = false) (n4 : (s.toList == [35, 86, 65, 76, 85, 69, 33]) = false) (n5 : (s.toList == [35, 68, 73, 86, 47, 48, 33]) = false) (n6 : (s.toList == [35, 78, 47, 65]) = false) (HR : CallIs 31 #[.string s] (.tuple #[.int .i64 n, .int .i64 x])) (HX : CallIs 29 #[.string s] (vV k' i' t')) : CallIs 30 #[.string s] (vV k' i' t') := by
  intro w
  go_enter Tryd.func30, Tryd.ntmps30
  try simp only [List.append]
  go_wp2_with fail
  refine (HR.out _).mono ?_
  rintro e w1 ⟨rfl, hb1⟩
  have B1 := hide (next (step (Below.refl w.heap.size w) _) hb1)
  have cr := hide ((O3.new w (.int .i64 0) (.int .i64 0) (.string no) 26).keep hb1)
  go_wp2_with fail
  go_loopw [5] (fun i wr => ∃ j : Nat, (1 ≤ j ∧ j ≤ 7) ∧ i = .int .i64 j ∧ Hid (Below w.heap.size w wr) ∧ Hid (O3 wr w.heap.size (.int .i64 0) (.int .i64 0) (.string no))) (fun i _ => 7 - (intOf i).toNat)
  case atStart => exact ⟨1, by omega, rfl, B1, cr⟩
  case round =>
    obtain ⟨j, hj, rfl, B1, cr⟩ := hrel
    obtain rfl | rfl | rfl | rfl | rfl | rfl | rfl : j = 1 ∨ j = 2 ∨ j = 3 ∨ j = 4 ∨ j = 5 ∨ j = 6 ∨ j = 7 := by omega
    · clear hj
      have HE := etext1
      go_wp2_with fail
      refine (HE.out _).mono ?_
      rintro e w2 ⟨rfl, hb2⟩
      have B2 := hide (next B1.out hb2)
      replace cr := hide (cr.out.keep hb2)
      go_wp2_with fail
      go_roundw
      case rel => exact ⟨2, by omega, by go_num, B2, cr⟩
      case measure => simp [intOf]
    · clear hj
      have HE := etext2
      go_wp2_with fail
      refine (HE.out _).mono ?_
      rintro e w2 ⟨rfl, hb2⟩
      have B2 := hide (next B1.out hb2)
      replace cr := hide (cr.out.keep hb2)
      go_wp2_with fail
      go_roundw
      case rel => exact ⟨3, by omega, by go_num, B2, cr⟩
      case measure => simp [intOf]
    · clear hj
      have HE := etext3
      go_wp2_with fail
      refine (HE.out _).mono ?_
      rintro e w2 ⟨rfl, hb2⟩
      have B2 := hide (next B1.out hb2)
      replace cr := hide (cr.out.keep hb2)
      go_wp2_with fail
      go_roundw
      case rel => exact ⟨4, by omega, by go_num, B2, cr⟩
      case measure => simp [intOf]
    · clear hj
      have HE := etext4
      go_wp2_with fail
      refine (HE.out _).mono ?_
      rintro e w2 ⟨rfl, hb2⟩
      have B2 := hide (next B1.out hb2)
      replace cr := hide (cr.out.keep hb2)
      go_wp2_with fail
      go_roundw
      case rel => exact ⟨5, by omega, by go_num, B2, cr⟩
      case measure => simp [intOf]
    · clear hj
      have HE := etext5
      go_wp2_with fail
      refine (HE.out _).mono ?_
      rintro e w2 ⟨rfl, hb2⟩
      have B2 := hide (next B1.out hb2)
      replace cr := hide (cr.out.keep hb2)
      go_wp2_with fail
      go_roundw
      case rel => exact ⟨6, by omega, by go_num, B2, cr⟩
      case measure => simp [intOf]
    · clear hj
      have HE := etext6
      go_wp2_with fail
      refine (HE.out _).mono ?_
      rintro e w2 ⟨rfl, hb2⟩
      have B2 := hide (next B1.out hb2)
      replace cr := hide (cr.out.keep hb2)
      go_wp2_with fail
      go_roundw
      case rel => exact ⟨7, by omega, by go_num, B2, cr⟩
      case measure => simp [intOf]
    · clear hj
      go_wp2_with fail
      refine (HX.out _).mono ?_
      rintro e w2 ⟨rfl, hb2⟩
      have B2 := hide (next (B1.out) hb2)
      replace cr := hide (cr.out.keep hb2)
      have crw200 := cr.out.1.1
      have crw201 := cr.out.1.2.1
      have crw202 := cr.out.1.2.2
      have crw20f := cr.out.2
      have B2p := hide (below_put3 (b := w.heap.size) (B2.out) (by omega) (.int .i64 k') (.int .i64 i') (.string t'))
      replace cr := hide (cr.out.put (.int .i64 k') (.int .i64 i') (.string t'))
      obtain ⟨w2p, hw2p⟩ : ∃ w2p, put3 w2 (w.heap.size) (.int .i64 k') (.int .i64 i') (.string t') = w2p := ⟨_, rfl⟩
      rw [hw2p] at B2p cr
      unfold put3 at hw2p
      have crw2p00 := cr.out.1.1
      have crw2p01 := cr.out.1.2.1
      have crw2p02 := cr.out.1.2.2
      go_wp2_with fail
      refine bodyPost_ret (by simp [results, Tryd.results30, go_sem, crw2p00, crw2p01, crw2p02]; try rfl) rfl ?_
      exact ⟨rfl, B2p.out⟩
end Go.Proofs.YtlgmcabnbmbocaaDoor
