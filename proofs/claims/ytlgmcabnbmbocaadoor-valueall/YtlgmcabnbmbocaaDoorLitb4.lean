/- What Literal answers, by package value and by the reference, form by form. Proved of the Go text. -/
import Derived.Test.YtlgmcabnbmbocaaDoorLit4
namespace Go.Proofs.YtlgmcabnbmbocaaDoor
open Go.RowKit Go.Sort
set_option linter.unusedVariables false

set_option maxHeartbeats 1000000 in
theorem vlit_nil  : CallIs 12 #[.string no] (.tuple #[vV 0 0 no, .bool true]) := by
  intro w
  go_enter Tryd.func12, Tryd.ntmps12
  try simp only [List.append]
  go_wp2_with fail
  go_returns
  exact ⟨rfl, by go_grown⟩
set_option maxHeartbeats 1000000 in
theorem vlit_eq (s : ByteArray) (hs : s.size ≤ maxLen) (hp : 0 < s.size) (h1 : ((s[0].toNat : Int) == 61) = true) : CallIs 12 #[.string s] (.tuple #[vV 0 0 no, .bool false]) := by
  intro w
  unfold maxLen at hs
  have n1 := toList_ne s hp
  have n2 := isEmpty_ne s hp
  have hle : (1 : Int) ≤ s.size := by omega
  go_enter Tryd.func12, Tryd.ntmps12
  try simp only [List.append]
  go_wp2_with fail
  go_returns
  exact ⟨rfl, by go_grown⟩
set_option maxHeartbeats 1000000 in
theorem vlit_quote (s t : ByteArray) (k' i' : Int) (t' : ByteArray) (hs : s.size ≤ maxLen) (hp : 0 < s.size) (ht : s.extract 1 s.size = t) (h1 : ((s[0].toNat : Int) == 61) = false) (h2 : ((s[0].toNat : Int) == 39) = true) (HX : CallIs 29 #[.string t] (vV k' i' t')) : CallIs 12 #[.string s] (.tuple #[vV k' i' t', .bool true]) := by
  intro w
  unfold maxLen at hs
  have n1 := toList_ne s hp
  have n2 := isEmpty_ne s hp
  have hle : (1 : Int) ≤ s.size := by omega
  go_enter Tryd.func12, Tryd.ntmps12
  try simp only [List.append]
  go_wp2_with fail
  refine (HX.out _).mono ?_
  rintro e w1 ⟨rfl, hb1⟩
  have B1 := hide (next (step (Below.refl w.heap.size w) _) hb1)
  have cr := hide ((O3.new w (.int .i64 0) (.int .i64 0) (.string no) 26).keep hb1)
  have crw100 := cr.out.1.1
  have crw101 := cr.out.1.2.1
  have crw102 := cr.out.1.2.2
  have crw10f := cr.out.2
  have B1p := hide (below_put3 (b := w.heap.size) (B1.out) (by omega) (.int .i64 k') (.int .i64 i') (.string t'))
  replace cr := hide (cr.out.put (.int .i64 k') (.int .i64 i') (.string t'))
  obtain ⟨w1p, hw1p⟩ : ∃ w1p, put3 w1 (w.heap.size) (.int .i64 k') (.int .i64 i') (.string t') = w1p := ⟨_, rfl⟩
  rw [hw1p] at B1p cr
  unfold put3 at hw1p
  have crw1p00 := cr.out.1.1
  have crw1p01 := cr.out.1.2.1
  have crw1p02 := cr.out.1.2.2
  go_wp2_with fail
  refine bodyPost_ret (by simp [results, Tryd.results12, go_sem, crw1p00, crw1p01, crw1p02]; try rfl) rfl ?_
  exact ⟨rfl, B1p.out⟩
set_option maxHeartbeats 1000000 in
theorem rlit_nil  : CallIs 24 #[.string no] (.tuple #[vV 0 0 no, .bool true]) := by
  intro w
  go_enter Tryd.func24, Tryd.ntmps24
  try simp only [List.append]
  go_wp2_with fail
  go_returns
  exact ⟨rfl, by go_grown⟩
set_option maxHeartbeats 1000000 in
theorem rlit_eq (s : ByteArray) (hs : s.size ≤ maxLen) (hp : 0 < s.size) (h1 : ((s[0].toNat : Int) == 61) = true) : CallIs 24 #[.string s] (.tuple #[vV 0 0 no, .bool false]) := by
  intro w
  unfold maxLen at hs
  have n1 := toList_ne s hp
  have n2 := isEmpty_ne s hp
  have hle : (1 : Int) ≤ s.size := by omega
  go_enter Tryd.func24, Tryd.ntmps24
  try simp only [List.append]
  go_wp2_with fail
  go_returns
  exact ⟨rfl, by go_grown⟩
set_option maxHeartbeats 1000000 in
theorem rlit_quote (s t : ByteArray) (k' i' : Int) (t' : ByteArray) (hs : s.size ≤ maxLen) (hp : 0 < s.size) (ht : s.extract 1 s.size = t) (h1 : ((s[0].toNat : Int) == 61) = false) (h2 : ((s[0].toNat : Int) == 39) = true) (HX : CallIs 43 #[.string t] (vV k' i' t')) : CallIs 24 #[.string s] (.tuple #[vV k' i' t', .bool true]) := by
  intro w
  unfold maxLen at hs
  have n1 := toList_ne s hp
  have n2 := isEmpty_ne s hp
  have hle : (1 : Int) ≤ s.size := by omega
  go_enter Tryd.func24, Tryd.ntmps24
  try simp only [List.append]
  go_wp2_with fail
  refine (HX.out _).mono ?_
  rintro e w1 ⟨rfl, hb1⟩
  have B1 := hide (next (step (Below.refl w.heap.size w) _) hb1)
  have cr := hide ((O3.new w (.int .i64 0) (.int .i64 0) (.string no) 26).keep hb1)
  have crw100 := cr.out.1.1
  have crw101 := cr.out.1.2.1
  have crw102 := cr.out.1.2.2
  have crw10f := cr.out.2
  have B1p := hide (below_put3 (b := w.heap.size) (B1.out) (by omega) (.int .i64 k') (.int .i64 i') (.string t'))
  replace cr := hide (cr.out.put (.int .i64 k') (.int .i64 i') (.string t'))
  obtain ⟨w1p, hw1p⟩ : ∃ w1p, put3 w1 (w.heap.size) (.int .i64 k') (.int .i64 i') (.string t') = w1p := ⟨_, rfl⟩
  rw [hw1p] at B1p cr
  unfold put3 at hw1p
  have crw1p00 := cr.out.1.1
  have crw1p01 := cr.out.1.2.1
  have crw1p02 := cr.out.1.2.2
  go_wp2_with fail
  refine bodyPost_ret (by simp [results, Tryd.results24, go_sem, crw1p00, crw1p01, crw1p02]; try rfl) rfl ?_
  exact ⟨rfl, B1p.out⟩
set_option maxHeartbeats 1000000 in
theorem vlit_plain (s : ByteArray) (k' i' : Int) (t' : ByteArray) (hs : s.size ≤ maxLen) (hp : 0 < s.size) (h1 : ((s[0].toNat : Int) == 61) = false) (h2 : ((s[0].toNat : Int) == 39) = false) (HX : CallIs 30 #[.string s] (vV k' i' t')) : CallIs 12 #[.string s] (.tuple #[vV k' i' t', .bool true]) := by
  intro w
  unfold maxLen at hs
  have n1 := toList_ne s hp
  have n2 := isEmpty_ne s hp
  have hle : (1 : Int) ≤ s.size := by omega
  go_enter Tryd.func12, Tryd.ntmps12
  try simp only [List.append]
  go_wp2_with fail
  refine (HX.out _).mono ?_
  rintro e w1 ⟨rfl, hb1⟩
  have B1 := hide (next (step (Below.refl w.heap.size w) _) hb1)
  have cr := hide ((O3.new w (.int .i64 0) (.int .i64 0) (.string no) 26).keep hb1)
  have crw100 := cr.out.1.1
  have crw101 := cr.out.1.2.1
  have crw102 := cr.out.1.2.2
  have crw10f := cr.out.2
  have B1p := hide (below_put3 (b := w.heap.size) (B1.out) (by omega) (.int .i64 k') (.int .i64 i') (.string t'))
  replace cr := hide (cr.out.put (.int .i64 k') (.int .i64 i') (.string t'))
  obtain ⟨w1p, hw1p⟩ : ∃ w1p, put3 w1 (w.heap.size) (.int .i64 k') (.int .i64 i') (.string t') = w1p := ⟨_, rfl⟩
  rw [hw1p] at B1p cr
  unfold put3 at hw1p
  have crw1p00 := cr.out.1.1
  have crw1p01 := cr.out.1.2.1
  have crw1p02 := cr.out.1.2.2
  go_wp2_with fail
  refine bodyPost_ret (by simp [results, Tryd.results12, go_sem, crw1p00, crw1p01, crw1p02]; try rfl) rfl ?_
  exact ⟨rfl, B1p.out⟩
set_option maxHeartbeats 1000000 in
theorem rlit_num (s : ByteArray) (n : Int) (hs : s.size ≤ maxLen) (hp : 0 < s.size) (h1 : ((s[0].toNat : Int) == 61) = false) (h2 : ((s[0].toNat : Int) == 39) = false) (HR : CallIs 38 #[.string s] (.tuple #[.int .i64 n, .int .i64 0])) : CallIs 24 #[.string s] (.tuple #[vV 1 n no, .bool true]) := by
  intro w
  unfold maxLen at hs
  have n1 := toList_ne s hp
  have n2 := isEmpty_ne s hp
  have hle : (1 : Int) ≤ s.size := by omega
  go_enter Tryd.func24, Tryd.ntmps24
  try simp only [List.append]
  go_wp2_with fail
  refine (HR.out _).mono ?_
  rintro e w1 ⟨rfl, hb1⟩
  have B1 := hide (next (step (Below.refl w.heap.size w) _) hb1)
  have cr := hide ((O3.new w (.int .i64 0) (.int .i64 0) (.string no) 26).keep hb1)
  have HN := rint_is n
  go_wp2_with fail
  refine (HN.out _).mono ?_
  rintro e w2 ⟨rfl, hb2⟩
  have B2 := hide (next (B1.out) hb2)
  replace cr := hide (cr.out.keep hb2)
  have crw200 := cr.out.1.1
  have crw201 := cr.out.1.2.1
  have crw202 := cr.out.1.2.2
  have crw20f := cr.out.2
  have B2p := hide (below_put3 (b := w.heap.size) (B2.out) (by omega) (.int .i64 1) (.int .i64 n) (.string no))
  replace cr := hide (cr.out.put (.int .i64 1) (.int .i64 n) (.string no))
  obtain ⟨w2p, hw2p⟩ : ∃ w2p, put3 w2 (w.heap.size) (.int .i64 1) (.int .i64 n) (.string no) = w2p := ⟨_, rfl⟩
  rw [hw2p] at B2p cr
  unfold put3 at hw2p
  have crw2p00 := cr.out.1.1
  have crw2p01 := cr.out.1.2.1
  have crw2p02 := cr.out.1.2.2
  go_wp2_with fail
  refine bodyPost_ret (by simp [results, Tryd.results24, go_sem, crw2p00, crw2p01, crw2p02]; try rfl) rfl ?_
  exact ⟨rfl, B2p.out⟩
set_option maxHeartbeats 1000000 in
theorem rlit_tT (n x : Int) (hx : (x == 0) = false) (HR : CallIs 38 #[.string tT] (.tuple #[.int .i64 n, .int .i64 x])) : CallIs 24 #[.string tT] (.tuple #[vV 2 1 no, .bool true]) := by
  intro w
  go_enter Tryd.func24, Tryd.ntmps24
  try simp only [List.append]
  go_wp2_with fail
  refine (HR.out _).mono ?_
  rintro e w1 ⟨rfl, hb1⟩
  have B1 := hide (next (step (Below.refl w.heap.size w) _) hb1)
  have cr := hide ((O3.new w (.int .i64 0) (.int .i64 0) (.string no) 26).keep hb1)
  have HN := rbool_yes
  go_wp2_with fail
  refine (HN.out _).mono ?_
  rintro e w2 ⟨rfl, hb2⟩
  have B2 := hide (next (B1.out) hb2)
  replace cr := hide (cr.out.keep hb2)
  have crw200 := cr.out.1.1
  have crw201 := cr.out.1.2.1
  have crw202 := cr.out.1.2.2
  have crw20f := cr.out.2
  have B2p := hide (below_put3 (b := w.heap.size) (B2.out) (by omega) (.int .i64 2) (.int .i64 1) (.string no))
  replace cr := hide (cr.out.put (.int .i64 2) (.int .i64 1) (.string no))
  obtain ⟨w2p, hw2p⟩ : ∃ w2p, put3 w2 (w.heap.size) (.int .i64 2) (.int .i64 1) (.string no) = w2p := ⟨_, rfl⟩
  rw [hw2p] at B2p cr
  unfold put3 at hw2p
  have crw2p00 := cr.out.1.1
  have crw2p01 := cr.out.1.2.1
  have crw2p02 := cr.out.1.2.2
  go_wp2_with fail
  refine bodyPost_ret (by simp [results, Tryd.results24, go_sem, crw2p00, crw2p01, crw2p02]; try rfl) rfl ?_
  exact ⟨rfl, B2p.out⟩
set_option maxHeartbeats 1000000 in
theorem rlit_tF (n x : Int) (hx : (x == 0) = false) (HR : CallIs 38 #[.string tF] (.tuple #[.int .i64 n, .int .i64 x])) : CallIs 24 #[.string tF] (.tuple #[vV 2 0 no, .bool true]) := by
  intro w
  go_enter Tryd.func24, Tryd.ntmps24
  try simp only [List.append]
  go_wp2_with fail
  refine (HR.out _).mono ?_
  rintro e w1 ⟨rfl, hb1⟩
  have B1 := hide (next (step (Below.refl w.heap.size w) _) hb1)
  have cr := hide ((O3.new w (.int .i64 0) (.int .i64 0) (.string no) 26).keep hb1)
  have HN := rbool_no
  go_wp2_with fail
  refine (HN.out _).mono ?_
  rintro e w2 ⟨rfl, hb2⟩
  have B2 := hide (next (B1.out) hb2)
  replace cr := hide (cr.out.keep hb2)
  have crw200 := cr.out.1.1
  have crw201 := cr.out.1.2.1
  have crw202 := cr.out.1.2.2
  have crw20f := cr.out.2
  have B2p := hide (below_put3 (b := w.heap.size) (B2.out) (by omega) (.int .i64 2) (.int .i64 0) (.string no))
  replace cr := hide (cr.out.put (.int .i64 2) (.int .i64 0) (.string no))
  obtain ⟨w2p, hw2p⟩ : ∃ w2p, put3 w2 (w.heap.size) (.int .i64 2) (.int .i64 0) (.string no) = w2p := ⟨_, rfl⟩
  rw [hw2p] at B2p cr
  unfold put3 at hw2p
  have crw2p00 := cr.out.1.1
  have crw2p01 := cr.out.1.2.1
  have crw2p02 := cr.out.1.2.2
  go_wp2_with fail
  refine bodyPost_ret (by simp [results, Tryd.results24, go_sem, crw2p00, crw2p01, crw2p02]; try rfl) rfl ?_
  exact ⟨rfl, B2p.out⟩
theorem err_cells {W w : World} (hb : Below (W.alloc errO).heap.size (W.alloc errO) w) : w.cell? ⟨W.heap.size, 1, none⟩ = some (.string e1T) ∧ w.cell? ⟨W.heap.size, 2, none⟩ = some (.string e2T) ∧ w.cell? ⟨W.heap.size, 3, none⟩ = some (.string e3T) ∧ w.cell? ⟨W.heap.size, 4, none⟩ = some (.string e4T) ∧ w.cell? ⟨W.heap.size, 5, none⟩ = some (.string e5T) ∧ w.cell? ⟨W.heap.size, 6, none⟩ = some (.string e6T) := by
  refine ⟨?_, ?_, ?_, ?_, ?_, ?_⟩ <;> refine keep1 hb ?_ <;> go_simp
set_option maxHeartbeats 1000000 in
theorem rlit_e1 (n x : Int) (hx : (x == 0) = false) (HR : CallIs 38 #[.string e1T] (.tuple #[.int .i64 n, .int .i64 x])) : CallIs 24 #[.string e1T] (.tuple #[vV 4 1 no, .bool true]) := by
  intro w
  go_enter Tryd.func24, Tryd.ntmps24
  try simp only [List.append]
  go_wp2_with fail
  refine (HR.out _).mono ?_
  rintro e w1 ⟨rfl, hb1⟩
  have B1 := hide (next (step (Below.refl w.heap.size w) _) hb1)
  have cr := hide ((O3.new w (.int .i64 0) (.int .i64 0) (.string no) 26).keep hb1)
  go_wp2_with fail
  refine ((hide errors_is).out _).mono ?_
  rintro e w' ⟨rfl, rfl⟩
  have B2 := hide (step B1.out errO)
  replace cr := hide (cr.out.alloc errO)
  obtain ⟨c1, c2, c3, c4, c5, c6⟩ := err_cells (Below.refl (w1.alloc errO).heap.size (w1.alloc errO))
  obtain ⟨eb, heb⟩ : ∃ eb, w1.heap.size = eb := ⟨_, rfl⟩
  simp only [heb] at c1 c2 c3 c4 c5 c6
  obtain ⟨w2, hw2⟩ : ∃ w2, w1.alloc errO = w2 := ⟨_, rfl⟩
  simp only [hw2] at c1 c2 c3 c4 c5 c6 B2 cr
  simp only [heb, hw2]
  clear hw2 heb hb1 B1
  go_wp2_with fail
  go_loop [7] (fun i => ∃ j : Nat, (1 ≤ j ∧ j ≤ 1) ∧ i = .int .i64 j) (fun i => 7 - (intOf i).toNat)
  case atStart => exact ⟨1, by omega, rfl⟩
  case round =>
    obtain ⟨j, hj, rfl⟩ := hrel
    obtain rfl : j = 1 := by omega
    · clear hj
      have HN := rerr_is 1
      go_wp2_with fail
      refine (HN.out _).mono ?_
      rintro e w3 ⟨rfl, hb3⟩
      have B3 := hide (next (B2.out) hb3)
      replace cr := hide (cr.out.keep hb3)
      have crw300 := cr.out.1.1
      have crw301 := cr.out.1.2.1
      have crw302 := cr.out.1.2.2
      have crw30f := cr.out.2
      have B3p := hide (below_put3 (b := w.heap.size) (B3.out) (by omega) (.int .i64 4) (.int .i64 1) (.string no))
      replace cr := hide (cr.out.put (.int .i64 4) (.int .i64 1) (.string no))
      obtain ⟨w3p, hw3p⟩ : ∃ w3p, put3 w3 (w.heap.size) (.int .i64 4) (.int .i64 1) (.string no) = w3p := ⟨_, rfl⟩
      rw [hw3p] at B3p cr
      unfold put3 at hw3p
      have crw3p00 := cr.out.1.1
      have crw3p01 := cr.out.1.2.1
      have crw3p02 := cr.out.1.2.2
      go_wp2_with fail
      refine bodyPost_ret (by simp [results, Tryd.results24, go_sem, crw3p00, crw3p01, crw3p02]; try rfl) rfl ?_
      exact ⟨rfl, B3p.out⟩
set_option maxHeartbeats 1000000 in
theorem rlit_e2 (n x : Int) (hx : (x == 0) = false) (HR : CallIs 38 #[.string e2T] (.tuple #[.int .i64 n, .int .i64 x])) : CallIs 24 #[.string e2T] (.tuple #[vV 4 2 no, .bool true]) := by
  intro w
  go_enter Tryd.func24, Tryd.ntmps24
  try simp only [List.append]
  go_wp2_with fail
  refine (HR.out _).mono ?_
  rintro e w1 ⟨rfl, hb1⟩
  have B1 := hide (next (step (Below.refl w.heap.size w) _) hb1)
  have cr := hide ((O3.new w (.int .i64 0) (.int .i64 0) (.string no) 26).keep hb1)
  go_wp2_with fail
  refine ((hide errors_is).out _).mono ?_
  rintro e w' ⟨rfl, rfl⟩
  have B2 := hide (step B1.out errO)
  replace cr := hide (cr.out.alloc errO)
  obtain ⟨c1, c2, c3, c4, c5, c6⟩ := err_cells (Below.refl (w1.alloc errO).heap.size (w1.alloc errO))
  obtain ⟨eb, heb⟩ : ∃ eb, w1.heap.size = eb := ⟨_, rfl⟩
  simp only [heb] at c1 c2 c3 c4 c5 c6
  obtain ⟨w2, hw2⟩ : ∃ w2, w1.alloc errO = w2 := ⟨_, rfl⟩
  simp only [hw2] at c1 c2 c3 c4 c5 c6 B2 cr
  simp only [heb, hw2]
  clear hw2 heb hb1 B1
  go_wp2_with fail
  go_loop [7] (fun i => ∃ j : Nat, (1 ≤ j ∧ j ≤ 2) ∧ i = .int .i64 j) (fun i => 7 - (intOf i).toNat)
  case atStart => exact ⟨1, by omega, rfl⟩
  case round =>
    obtain ⟨j, hj, rfl⟩ := hrel
    obtain rfl | rfl : j = 1 ∨ j = 2 := by omega
    · clear hj
      go_wp2_with fail
      go_round
      case rel => exact ⟨2, by omega, by go_num⟩
      case measure => simp [intOf]
    · clear hj
      have HN := rerr_is 2
      go_wp2_with fail
      refine (HN.out _).mono ?_
      rintro e w3 ⟨rfl, hb3⟩
      have B3 := hide (next (B2.out) hb3)
      replace cr := hide (cr.out.keep hb3)
      have crw300 := cr.out.1.1
      have crw301 := cr.out.1.2.1
      have crw302 := cr.out.1.2.2
      have crw30f := cr.out.2
      have B3p := hide (below_put3 (b := w.heap.size) (B3.out) (by omega) (.int .i64 4) (.int .i64 2) (.string no))
      replace cr := hide (cr.out.put (.int .i64 4) (.int .i64 2) (.string no))
      obtain ⟨w3p, hw3p⟩ : ∃ w3p, put3 w3 (w.heap.size) (.int .i64 4) (.int .i64 2) (.string no) = w3p := ⟨_, rfl⟩
      rw [hw3p] at B3p cr
      unfold put3 at hw3p
      have crw3p00 := cr.out.1.1
      have crw3p01 := cr.out.1.2.1
      have crw3p02 := cr.out.1.2.2
      go_wp2_with fail
      refine bodyPost_ret (by simp [results, Tryd.results24, go_sem, crw3p00, crw3p01, crw3p02]; try rfl) rfl ?_
      exact ⟨rfl, B3p.out⟩
set_option maxHeartbeats 1000000 in
theorem rlit_e3 (n x : Int) (hx : (x == 0) = false) (HR : CallIs 38 #[.string e3T] (.tuple #[.int .i64 n, .int .i64 x])) : CallIs 24 #[.string e3T] (.tuple #[vV 4 3 no, .bool true]) := by
  intro w
  go_enter Tryd.func24, Tryd.ntmps24
  try simp only [List.append]
  go_wp2_with fail
  refine (HR.out _).mono ?_
  rintro e w1 ⟨rfl, hb1⟩
  have B1 := hide (next (step (Below.refl w.heap.size w) _) hb1)
  have cr := hide ((O3.new w (.int .i64 0) (.int .i64 0) (.string no) 26).keep hb1)
  go_wp2_with fail
  refine ((hide errors_is).out _).mono ?_
  rintro e w' ⟨rfl, rfl⟩
  have B2 := hide (step B1.out errO)
  replace cr := hide (cr.out.alloc errO)
  obtain ⟨c1, c2, c3, c4, c5, c6⟩ := err_cells (Below.refl (w1.alloc errO).heap.size (w1.alloc errO))
  obtain ⟨eb, heb⟩ : ∃ eb, w1.heap.size = eb := ⟨_, rfl⟩
  simp only [heb] at c1 c2 c3 c4 c5 c6
  obtain ⟨w2, hw2⟩ : ∃ w2, w1.alloc errO = w2 := ⟨_, rfl⟩
  simp only [hw2] at c1 c2 c3 c4 c5 c6 B2 cr
  simp only [heb, hw2]
  clear hw2 heb hb1 B1
  go_wp2_with fail
  go_loop [7] (fun i => ∃ j : Nat, (1 ≤ j ∧ j ≤ 3) ∧ i = .int .i64 j) (fun i => 7 - (intOf i).toNat)
  case atStart => exact ⟨1, by omega, rfl⟩
  case round =>
    obtain ⟨j, hj, rfl⟩ := hrel
    obtain rfl | rfl | rfl : j = 1 ∨ j = 2 ∨ j = 3 := by omega
    · clear hj
      go_wp2_with fail
      go_round
      case rel => exact ⟨2, by omega, by go_num⟩
      case measure => simp [intOf]
    · clear hj
      go_wp2_with fail
      go_round
      case rel => exact ⟨3, by omega, by go_num⟩
      case measure => simp [intOf]
    · clear hj
      have HN := rerr_is 3
      go_wp2_with fail
      refine (HN.out _).mono ?_
      rintro e w3 ⟨rfl, hb3⟩
      have B3 := hide (next (B2.out) hb3)
      replace cr := hide (cr.out.keep hb3)
      have crw300 := cr.out.1.1
      have crw301 := cr.out.1.2.1
      have crw302 := cr.out.1.2.2
      have crw30f := cr.out.2
      have B3p := hide (below_put3 (b := w.heap.size) (B3.out) (by omega) (.int .i64 4) (.int .i64 3) (.string no))
      replace cr := hide (cr.out.put (.int .i64 4) (.int .i64 3) (.string no))
      obtain ⟨w3p, hw3p⟩ : ∃ w3p, put3 w3 (w.heap.size) (.int .i64 4) (.int .i64 3) (.string no) = w3p := ⟨_, rfl⟩
      rw [hw3p] at B3p cr
      unfold put3 at hw3p
      have crw3p00 := cr.out.1.1
      have crw3p01 := cr.out.1.2.1
      have crw3p02 := cr.out.1.2.2
      go_wp2_with fail
      refine bodyPost_ret (by simp [results, Tryd.results24, go_sem, crw3p00, crw3p01, crw3p02]; try rfl) rfl ?_
      exact ⟨rfl, B3p.out⟩
set_option maxHeartbeats 1000000 in
theorem rlit_e4 (n x : Int) (hx : (x == 0) = false) (HR : CallIs 38 #[.string e4T] (.tuple #[.int .i64 n, .int .i64 x])) : CallIs 24 #[.string e4T] (.tuple #[vV 4 4 no, .bool true]) := by
  intro w
  go_enter Tryd.func24, Tryd.ntmps24
  try simp only [List.append]
  go_wp2_with fail
  refine (HR.out _).mono ?_
  rintro e w1 ⟨rfl, hb1⟩
  have B1 := hide (next (step (Below.refl w.heap.size w) _) hb1)
  have cr := hide ((O3.new w (.int .i64 0) (.int .i64 0) (.string no) 26).keep hb1)
  go_wp2_with fail
  refine ((hide errors_is).out _).mono ?_
  rintro e w' ⟨rfl, rfl⟩
  have B2 := hide (step B1.out errO)
  replace cr := hide (cr.out.alloc errO)
  obtain ⟨c1, c2, c3, c4, c5, c6⟩ := err_cells (Below.refl (w1.alloc errO).heap.size (w1.alloc errO))
  obtain ⟨eb, heb⟩ : ∃ eb, w1.heap.size = eb := ⟨_, rfl⟩
  simp only [heb] at c1 c2 c3 c4 c5 c6
  obtain ⟨w2, hw2⟩ : ∃ w2, w1.alloc errO = w2 := ⟨_, rfl⟩
  simp only [hw2] at c1 c2 c3 c4 c5 c6 B2 cr
  simp only [heb, hw2]
  clear hw2 heb hb1 B1
  go_wp2_with fail
  go_loop [7] (fun i => ∃ j : Nat, (1 ≤ j ∧ j ≤ 4) ∧ i = .int .i64 j) (fun i => 7 - (intOf i).toNat)
  case atStart => exact ⟨1, by omega, rfl⟩
  case round =>
    obtain ⟨j, hj, rfl⟩ := hrel
    obtain rfl | rfl | rfl | rfl : j = 1 ∨ j = 2 ∨ j = 3 ∨ j = 4 := by omega
    · clear hj
      go_wp2_with fail
      go_round
      case rel => exact ⟨2, by omega, by go_num⟩
      case measure => simp [intOf]
    · clear hj
      go_wp2_with fail
      go_round
      case rel => exact ⟨3, by omega, by go_num⟩
      case measure => simp [intOf]
    · clear hj
      go_wp2_with fail
      go_round
      case rel => exact ⟨4, by omega, by go_num⟩
      case measure => simp [intOf]
    · clear hj
      have HN := rerr_is 4
      go_wp2_with fail
      refine (HN.out _).mono ?_
      rintro e w3 ⟨rfl, hb3⟩
      have B3 := hide (next (B2.out) hb3)
      replace cr := hide (cr.out.keep hb3)
      have crw300 := cr.out.1.1
      have crw301 := cr.out.1.2.1
      have crw302 := cr.out.1.2.2
      have crw30f := cr.out.2
      have B3p := hide (below_put3 (b := w.heap.size) (B3.out) (by omega) (.int .i64 4) (.int .i64 4) (.string no))
      replace cr := hide (cr.out.put (.int .i64 4) (.int .i64 4) (.string no))
      obtain ⟨w3p, hw3p⟩ : ∃ w3p, put3 w3 (w.heap.size) (.int .i64 4) (.int .i64 4) (.string no) = w3p := ⟨_, rfl⟩
      rw [hw3p] at B3p cr
      unfold put3 at hw3p
      have crw3p00 := cr.out.1.1
      have crw3p01 := cr.out.1.2.1
      have crw3p02 := cr.out.1.2.2
      go_wp2_with fail
      refine bodyPost_ret (by simp [results, Tryd.results24, go_sem, crw3p00, crw3p01, crw3p02]; try rfl) rfl ?_
      exact ⟨rfl, B3p.out⟩
set_option maxHeartbeats 1000000 in
theorem rlit_e5 (n x : Int) (hx : (x == 0) = false) (HR : CallIs 38 #[.string e5T] (.tuple #[.int .i64 n, .int .i64 x])) : CallIs 24 #[.string e5T] (.tuple #[vV 4 5 no, .bool true]) := by
  intro w
  go_enter Tryd.func24, Tryd.ntmps24
  try simp only [List.append]
  go_wp2_with fail
  refine (HR.out _).mono ?_
  rintro e w1 ⟨rfl, hb1⟩
  have B1 := hide (next (step (Below.refl w.heap.size w) _) hb1)
  have cr := hide ((O3.new w (.int .i64 0) (.int .i64 0) (.string no) 26).keep hb1)
  go_wp2_with fail
  refine ((hide errors_is).out _).mono ?_
  rintro e w' ⟨rfl, rfl⟩
  have B2 := hide (step B1.out errO)
  replace cr := hide (cr.out.alloc errO)
  obtain ⟨c1, c2, c3, c4, c5, c6⟩ := err_cells (Below.refl (w1.alloc errO).heap.size (w1.alloc errO))
  obtain ⟨eb, heb⟩ : ∃ eb, w1.heap.size = eb := ⟨_, rfl⟩
  simp only [heb] at c1 c2 c3 c4 c5 c6
  obtain ⟨w2, hw2⟩ : ∃ w2, w1.alloc errO = w2 := ⟨_, rfl⟩
  simp only [hw2] at c1 c2 c3 c4 c5 c6 B2 cr
  simp only [heb, hw2]
  clear hw2 heb hb1 B1
  go_wp2_with fail
  go_loop [7] (fun i => ∃ j : Nat, (1 ≤ j ∧ j ≤ 5) ∧ i = .int .i64 j) (fun i => 7 - (intOf i).toNat)
  case atStart => exact ⟨1, by omega, rfl⟩
  case round =>
    obtain ⟨j, hj, rfl⟩ := hrel
    obtain rfl | rfl | rfl | rfl | rfl : j = 1 ∨ j = 2 ∨ j = 3 ∨ j = 4 ∨ j = 5 := by omega
    · clear hj
      go_wp2_with fail
      go_round
      case rel => exact ⟨2, by omega, by go_num⟩
      case measure => simp [intOf]
    · clear hj
      go_wp2_with fail
      go_round
      case rel => exact ⟨3, by omega, by go_num⟩
      case measure => simp [intOf]
    · clear hj
      go_wp2_with fail
      go_round
      case rel => exact ⟨4, by omega, by go_num⟩
      case measure => simp [intOf]
    · clear hj
      go_wp2_with fail
      go_round
      case rel => exact ⟨5, by omega, by go_num⟩
      case measure => simp [intOf]
    · clear hj
      have HN := rerr_is 5
      go_wp2_with fail
      refine (HN.out _).mono ?_
      rintro e w3 ⟨rfl, hb3⟩
      have B3 := hide (next (B2.out) hb3)
      replace cr := hide (cr.out.keep hb3)
      have crw300 := cr.out.1.1
      have crw301 := cr.out.1.2.1
      have crw302 := cr.out.1.2.2
      have crw30f := cr.out.2
      have B3p := hide (below_put3 (b := w.heap.size) (B3.out) (by omega) (.int .i64 4) (.int .i64 5) (.string no))
      replace cr := hide (cr.out.put (.int .i64 4) (.int .i64 5) (.string no))
      obtain ⟨w3p, hw3p⟩ : ∃ w3p, put3 w3 (w.heap.size) (.int .i64 4) (.int .i64 5) (.string no) = w3p := ⟨_, rfl⟩
      rw [hw3p] at B3p cr
      unfold put3 at hw3p
      have crw3p00 := cr.out.1.1
      have crw3p01 := cr.out.1.2.1
      have crw3p02 := cr.out.1.2.2
      go_wp2_with fail
      refine bodyPost_ret (by simp [results, Tryd.results24, go_sem, crw3p00, crw3p01, crw3p02]; try rfl) rfl ?_
      exact ⟨rfl, B3p.out⟩
set_option maxHeartbeats 1000000 in
theorem rlit_e6 (n x : Int) (hx : (x == 0) = false) (HR : CallIs 38 #[.string e6T] (.tuple #[.int .i64 n, .int .i64 x])) : CallIs 24 #[.string e6T] (.tuple #[vV 4 6 no, .bool true]) := by
  intro w
  go_enter Tryd.func24, Tryd.ntmps24
  try simp only [List.append]
  go_wp2_with fail
  refine (HR.out _).mono ?_
  rintro e w1 ⟨rfl, hb1⟩
  have B1 := hide (next (step (Below.refl w.heap.size w) _) hb1)
  have cr := hide ((O3.new w (.int .i64 0) (.int .i64 0) (.string no) 26).keep hb1)
  go_wp2_with fail
  refine ((hide errors_is).out _).mono ?_
  rintro e w' ⟨rfl, rfl⟩
  have B2 := hide (step B1.out errO)
  replace cr := hide (cr.out.alloc errO)
  obtain ⟨c1, c2, c3, c4, c5, c6⟩ := err_cells (Below.refl (w1.alloc errO).heap.size (w1.alloc errO))
  obtain ⟨eb, heb⟩ : ∃ eb, w1.heap.size = eb := ⟨_, rfl⟩
  simp only [heb] at c1 c2 c3 c4 c5 c6
  obtain ⟨w2, hw2⟩ : ∃ w2, w1.alloc errO = w2 := ⟨_, rfl⟩
  simp only [hw2] at c1 c2 c3 c4 c5 c6 B2 cr
  simp only [heb, hw2]
  clear hw2 heb hb1 B1
  go_wp2_with fail
  go_loop [7] (fun i => ∃ j : Nat, (1 ≤ j ∧ j ≤ 6) ∧ i = .int .i64 j) (fun i => 7 - (intOf i).toNat)
  case atStart => exact ⟨1, by omega, rfl⟩
  case round =>
    obtain ⟨j, hj, rfl⟩ := hrel
    obtain rfl | rfl | rfl | rfl | rfl | rfl : j = 1 ∨ j = 2 ∨ j = 3 ∨ j = 4 ∨ j = 5 ∨ j = 6 := by omega
    · clear hj
      go_wp2_with fail
      go_round
      case rel => exact ⟨2, by omega, by go_num⟩
      case measure => simp [intOf]
    · clear hj
      go_wp2_with fail
      go_round
      case rel => exact ⟨3, by omega, by go_num⟩
      case measure => simp [intOf]
    · clear hj
      go_wp2_with fail
      go_round
      case rel => exact ⟨4, by omega, by go_num⟩
      case measure => simp [intOf]
    · clear hj
      go_wp2_with fail
      go_round
      case rel => exact ⟨5, by omega, by go_num⟩
      case measure => simp [intOf]
    · clear hj
      go_wp2_with fail
      go_round
      case rel => exact ⟨6, by omega, by go_num⟩
      case measure => simp [intOf]
    · clear hj
      have HN := rerr_is 6
      go_wp2_with fail
      refine (HN.out _).mono ?_
      rintro e w3 ⟨rfl, hb3⟩
      have B3 := hide (next (B2.out) hb3)
      replace cr := hide (cr.out.keep hb3)
      have crw300 := cr.out.1.1
      have crw301 := cr.out.1.2.1
      have crw302 := cr.out.1.2.2
      have crw30f := cr.out.2
      have B3p := hide (below_put3 (b := w.heap.size) (B3.out) (by omega) (.int .i64 4) (.int .i64 6) (.string no))
      replace cr := hide (cr.out.put (.int .i64 4) (.int .i64 6) (.string no))
      obtain ⟨w3p, hw3p⟩ : ∃ w3p, put3 w3 (w.heap.size) (.int .i64 4) (.int .i64 6) (.string no) = w3p := ⟨_, rfl⟩
      rw [hw3p] at B3p cr
      unfold put3 at hw3p
      have crw3p00 := cr.out.1.1
      have crw3p01 := cr.out.1.2.1
      have crw3p02 := cr.out.1.2.2
      go_wp2_with fail
      refine bodyPost_ret (by simp [results, Tryd.results24, go_sem, crw3p00, crw3p01, crw3p02]; try rfl) rfl ?_
      exact ⟨rfl, B3p.out⟩
set_option maxHeartbeats 2000000 in
theorem rlit_text (s : ByteArray) (k' i' : Int) (t' : ByteArray) (hs : s.size ≤ maxLen) (hp : 0 < s.size) (h1 : ((s[0].toNat : Int) == 61) = false) (h2 : ((s[0].toNat : Int) == 39) = false) (n x : Int) (hx : (x == 0) = false) (hT : (s.toList == [84, 82, 85, 69]) = false) (hF : (s.toList == [70, 65, 76, 83, 69]) = false) (m1 : (s.toList == [35, 78, 65, 77, 69, 63]) = false) (m2 : (s.toList == [35, 78, 85, 77, 33]) = false) (n3 : (s.toList == [35, 82, 69, 70, 33]) = false) (n4 : (s.toList == [35, 86, 65, 76, 85, 69, 33]) = false) (n5 : (s.toList == [35, 68, 73, 86, 47, 48, 33]) = false) (n6 : (s.toList == [35, 78, 47, 65]) = false) (HR : CallIs 38 #[.string s] (.tuple #[.int .i64 n, .int .i64 x])) (HX : CallIs 43 #[.string s] (vV k' i' t')) : CallIs 24 #[.string s] (.tuple #[vV k' i' t', .bool true]) := by
  intro w
  unfold maxLen at hs
  have n1 := toList_ne s hp
  have n2 := isEmpty_ne s hp
  have hle : (1 : Int) ≤ s.size := by omega
  go_enter Tryd.func24, Tryd.ntmps24
  try simp only [List.append]
  go_wp2_with fail
  refine (HR.out _).mono ?_
  rintro e w1 ⟨rfl, hb1⟩
  have B1 := hide (next (step (Below.refl w.heap.size w) _) hb1)
  have cr := hide ((O3.new w (.int .i64 0) (.int .i64 0) (.string no) 26).keep hb1)
  go_wp2_with fail
  refine ((hide errors_is).out _).mono ?_
  rintro e w' ⟨rfl, rfl⟩
  have B2 := hide (step B1.out errO)
  replace cr := hide (cr.out.alloc errO)
  obtain ⟨c1, c2, c3, c4, c5, c6⟩ := err_cells (Below.refl (w1.alloc errO).heap.size (w1.alloc errO))
  obtain ⟨eb, heb⟩ : ∃ eb, w1.heap.size = eb := ⟨_, rfl⟩
  simp only [heb] at c1 c2 c3 c4 c5 c6
  obtain ⟨w2, hw2⟩ : ∃ w2, w1.alloc errO = w2 := ⟨_, rfl⟩
  simp only [hw2] at c1 c2 c3 c4 c5 c6 B2 cr
  simp only [heb, hw2]
  clear hw2 heb hb1 B1
  go_wp2_with fail
  go_loop [7] (fun i => ∃ j : Nat, (1 ≤ j ∧ j ≤ 7) ∧ i = .int .i64 j) (fun i => 7 - (intOf i).toNat)
  case atStart => exact ⟨1, by omega, rfl⟩
  case round =>
    obtain ⟨j, hj, rfl⟩ := hrel
    obtain rfl | rfl | rfl | rfl | rfl | rfl | rfl : j = 1 ∨ j = 2 ∨ j = 3 ∨ j = 4 ∨ j = 5 ∨ j = 6 ∨ j = 7 := by omega
    · clear hj
      go_wp2_with fail
      go_round
      case rel => exact ⟨2, by omega, by go_num⟩
      case measure => simp [intOf]
    · clear hj
      go_wp2_with fail
      go_round
      case rel => exact ⟨3, by omega, by go_num⟩
      case measure => simp [intOf]
    · clear hj
      go_wp2_with fail
      go_round
      case rel => exact ⟨4, by omega, by go_num⟩
      case measure => simp [intOf]
    · clear hj
      go_wp2_with fail
      go_round
      case rel => exact ⟨5, by omega, by go_num⟩
      case measure => simp [intOf]
    · clear hj
      go_wp2_with fail
      go_round
      case rel => exact ⟨6, by omega, by go_num⟩
      case measure => simp [intOf]
    · clear hj
      go_wp2_with fail
      go_round
      case rel => exact ⟨7, by omega, by go_num⟩
      case measure => simp [intOf]
    · clear hj
      go_wp2_with fail
      refine (HX.out _).mono ?_
      rintro e w3 ⟨rfl, hb3⟩
      have B3 := hide (next (B2.out) hb3)
      replace cr := hide (cr.out.keep hb3)
      have crw300 := cr.out.1.1
      have crw301 := cr.out.1.2.1
      have crw302 := cr.out.1.2.2
      have crw30f := cr.out.2
      have B3p := hide (below_put3 (b := w.heap.size) (B3.out) (by omega) (.int .i64 k') (.int .i64 i') (.string t'))
      replace cr := hide (cr.out.put (.int .i64 k') (.int .i64 i') (.string t'))
      obtain ⟨w3p, hw3p⟩ : ∃ w3p, put3 w3 (w.heap.size) (.int .i64 k') (.int .i64 i') (.string t') = w3p := ⟨_, rfl⟩
      rw [hw3p] at B3p cr
      unfold put3 at hw3p
      have crw3p00 := cr.out.1.1
      have crw3p01 := cr.out.1.2.1
      have crw3p02 := cr.out.1.2.2
      go_wp2_with fail
      refine bodyPost_ret (by simp [results, Tryd.results24, go_sem, crw3p00, crw3p01, crw3p02]; try rfl) rfl ?_
      exact ⟨rfl, B3p.out⟩
end Go.Proofs.YtlgmcabnbmbocaaDoor
