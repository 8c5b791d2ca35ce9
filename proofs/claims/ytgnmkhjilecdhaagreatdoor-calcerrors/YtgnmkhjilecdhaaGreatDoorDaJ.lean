/- What the other rows do. Proved of the Go text. What an argument is when it is asked for as a number, a text, a truth or as it is: for every value that may be. Proved of the Go text. -/
import Derived.Test.YtgnmkhjilecdhaaGreatDoorDoA14
import Derived.Test.YtgnmkhjilecdhaaGreatDoorDoT14
import Derived.Test.YtgnmkhjilecdhaaGreatDoorTxF14
import Derived.Test.YtgnmkhjilecdhaaGreatDoorBaJ
namespace Go.Proofs.YtgnmkhjilecdhaaGreatDoor
open Go.RowKit Go.Sort
set_option linter.unusedVariables false

set_option maxHeartbeats 1000000 in
set_option maxRecDepth 100000 in
theorem do_abs_neg (y0 : Va) (h : y0.i < 0) (r : Int) (e : Bool) (k i : Int) (t : ByteArray) (HO : CallIs 21 #[.int .i64 0, .int .i64 y0.i] (.tuple #[.int .i64 r, .bool e])) (HR : CallIs 20 #[.int .i64 r, .bool e] (vV k i t)) (b o cap : Nat) (w : World) (HT : Tb w) (C0 : VaAt w b (o) y0) : Calls Tryz.prog 32 #[.slice (some ⟨b, o, none⟩) 1 cap] w fun e w' => e = .returned (vV k i t) ∧ Below w.heap.size w w' := by
  replace HT := hide HT
  go_enter Tryz.func32, Tryz.ntmps32
  try simp only [List.append]
  have cr : Hid (O3 (w.alloc (vO 0 0 no)) (w.heap.size) (.int .i64 0) (.int .i64 0) (.string no)) := hide (by have h0 := (O3.new w (.int .i64 0) (.int .i64 0) (.string no) 30); exact h0)
  replace C0 := hide (C0.keep ((Below.refl _ _).alloc (Nat.le_refl _) (vO 0 0 no)))
  have d1_01 : ((w.alloc (vO 0 0 no))).cell? ⟨b, o + 1, none⟩ = some (.int .i64 y0.i) := C0.out.2.1
  go_wp2_with fail
  refine (HO.out _).mono ?_
  rintro e w1 ⟨rfl, hb1⟩
  clear d1_01
  have B1 := hide (next (step (Below.refl w.heap.size w) (vO 0 0 no)) hb1)
  replace cr := hide (cr.out.keep hb1)
  replace C0 := hide (C0.out.keep hb1)
  go_wp2_with fail
  refine (HR.out _).mono ?_
  rintro e w2 ⟨rfl, hb2⟩
  have B2 := hide (next (B1.out) hb2)
  replace cr := hide (cr.out.keep hb2)
  replace C0 := hide (C0.out.keep hb2)
  have cru30 := cr.out.1.1
  have cru31 := cr.out.1.2.1
  have cru32 := cr.out.1.2.2
  have cru3f := cr.out.2
  have Bq2 := hide (below_put3 (b := w.heap.size) (B2.out) (by omega) (.int .i64 k) (.int .i64 i) (.string t))
  replace cr := hide (cr.out.put (.int .i64 k) (.int .i64 i) (.string t))
  obtain ⟨wq2, hwq2⟩ : ∃ wq2, put3 (w2) (w.heap.size) (.int .i64 k) (.int .i64 i) (.string t) = wq2 := ⟨_, rfl⟩
  rw [hwq2] at Bq2 cr
  unfold put3 at hwq2
  have cru40 := cr.out.1.1
  have cru41 := cr.out.1.2.1
  have cru42 := cr.out.1.2.2
  go_wp2_with fail
  refine bodyPost_ret (by simp [results, Tryz.results32, go_sem, cru40, cru41, cru42]; try rfl) rfl ?_
  exact ⟨rfl, Bq2.out⟩
set_option maxHeartbeats 1000000 in
set_option maxRecDepth 100000 in
theorem do_abs_pos (y0 : Va) (h : ¬ y0.i < 0) (b o cap : Nat) (w : World) (HT : Tb w) (C0 : VaAt w b (o) y0) : Calls Tryz.prog 32 #[.slice (some ⟨b, o, none⟩) 1 cap] w fun e w' => e = .returned (vV y0.k y0.i y0.t) ∧ Below w.heap.size w w' := by
  replace HT := hide HT
  go_enter Tryz.func32, Tryz.ntmps32
  try simp only [List.append]
  have cr : Hid (O3 (w.alloc (vO 0 0 no)) (w.heap.size) (.int .i64 0) (.int .i64 0) (.string no)) := hide (by have h0 := (O3.new w (.int .i64 0) (.int .i64 0) (.string no) 30); exact h0)
  replace C0 := hide (C0.keep ((Below.refl _ _).alloc (Nat.le_refl _) (vO 0 0 no)))
  have d1_00 : ((w.alloc (vO 0 0 no))).cell? ⟨b, o, none⟩ = some (.int .i64 y0.k) := C0.out.1
  have d1_01 : ((w.alloc (vO 0 0 no))).cell? ⟨b, o + 1, none⟩ = some (.int .i64 y0.i) := C0.out.2.1
  have d1_02 : ((w.alloc (vO 0 0 no))).cell? ⟨b, o + 2, none⟩ = some (.string y0.t) := C0.out.2.2
  go_wp2_with fail
  refine bodyPost_ret (by simp [results, Tryz.results32, go_sem]; try rfl) rfl ?_
  exact ⟨rfl, step (Below.refl _ _) _⟩
set_option maxHeartbeats 1000000 in
set_option maxRecDepth 100000 in
theorem do_sign (y0 : Va) (c : Int) (HO : CallIs 34 #[.int .i64 y0.i, .int .i64 0] (.int .i64 c)) (b o cap : Nat) (w : World) (HT : Tb w) (C0 : VaAt w b (o) y0) : Calls Tryz.prog 33 #[.slice (some ⟨b, o, none⟩) 1 cap] w fun e w' => e = .returned (vV 1 c no) ∧ Below w.heap.size w w' := by
  replace HT := hide HT
  go_enter Tryz.func33, Tryz.ntmps33
  try simp only [List.append]
  have cr : Hid (O3 (w.alloc (vO 0 0 no)) (w.heap.size) (.int .i64 0) (.int .i64 0) (.string no)) := hide (by have h0 := (O3.new w (.int .i64 0) (.int .i64 0) (.string no) 30); exact h0)
  replace C0 := hide (C0.keep ((Below.refl _ _).alloc (Nat.le_refl _) (vO 0 0 no)))
  have d1_01 : ((w.alloc (vO 0 0 no))).cell? ⟨b, o + 1, none⟩ = some (.int .i64 y0.i) := C0.out.2.1
  go_wp2_with fail
  refine (HO.out _).mono ?_
  rintro e w1 ⟨rfl, hb1⟩
  clear d1_01
  have B1 := hide (next (step (Below.refl w.heap.size w) (vO 0 0 no)) hb1)
  replace cr := hide (cr.out.keep hb1)
  replace C0 := hide (C0.out.keep hb1)
  go_wp2_with fail
  refine ((cnumber_is c).out _).mono ?_
  rintro e w2 ⟨rfl, hb2⟩
  have B2 := hide (next (B1.out) hb2)
  replace cr := hide (cr.out.keep hb2)
  replace C0 := hide (C0.out.keep hb2)
  have cru30 := cr.out.1.1
  have cru31 := cr.out.1.2.1
  have cru32 := cr.out.1.2.2
  have cru3f := cr.out.2
  have Bq2 := hide (below_put3 (b := w.heap.size) (B2.out) (by omega) (.int .i64 1) (.int .i64 c) (.string no))
  replace cr := hide (cr.out.put (.int .i64 1) (.int .i64 c) (.string no))
  obtain ⟨wq2, hwq2⟩ : ∃ wq2, put3 (w2) (w.heap.size) (.int .i64 1) (.int .i64 c) (.string no) = wq2 := ⟨_, rfl⟩
  rw [hwq2] at Bq2 cr
  unfold put3 at hwq2
  have cru40 := cr.out.1.1
  have cru41 := cr.out.1.2.1
  have cru42 := cr.out.1.2.2
  go_wp2_with fail
  refine bodyPost_ret (by simp [results, Tryz.results33, go_sem, cru40, cru41, cru42]; try rfl) rfl ?_
  exact ⟨rfl, Bq2.out⟩
set_option maxHeartbeats 1000000 in
set_option maxRecDepth 100000 in
theorem do_even_true (y0 : Va) (h : (y0.i.tmod 2 == 0) = true) (b o cap : Nat) (w : World) (HT : Tb w) (C0 : VaAt w b (o) y0) : Calls Tryz.prog 45 #[.slice (some ⟨b, o, none⟩) 1 cap] w fun e w' => e = .returned (vV 2 1 no) ∧ Below w.heap.size w w' := by
  replace HT := hide HT
  go_enter Tryz.func45, Tryz.ntmps45
  try simp only [List.append]
  have cr : Hid (O3 (w.alloc (vO 0 0 no)) (w.heap.size) (.int .i64 0) (.int .i64 0) (.string no)) := hide (by have h0 := (O3.new w (.int .i64 0) (.int .i64 0) (.string no) 30); exact h0)
  replace C0 := hide (C0.keep ((Below.refl _ _).alloc (Nat.le_refl _) (vO 0 0 no)))
  have d1_01 : ((w.alloc (vO 0 0 no))).cell? ⟨b, o + 1, none⟩ = some (.int .i64 y0.i) := C0.out.2.1
  go_wp2_with fail
  refine (ctruth_yes.out _).mono ?_
  rintro e w1 ⟨rfl, hb1⟩
  clear d1_01
  have B1 := hide (next (step (Below.refl w.heap.size w) (vO 0 0 no)) hb1)
  replace cr := hide (cr.out.keep hb1)
  replace C0 := hide (C0.out.keep hb1)
  have cru30 := cr.out.1.1
  have cru31 := cr.out.1.2.1
  have cru32 := cr.out.1.2.2
  have cru3f := cr.out.2
  have Bq2 := hide (below_put3 (b := w.heap.size) (B1.out) (by omega) (.int .i64 2) (.int .i64 1) (.string no))
  replace cr := hide (cr.out.put (.int .i64 2) (.int .i64 1) (.string no))
  obtain ⟨wq2, hwq2⟩ : ∃ wq2, put3 (w1) (w.heap.size) (.int .i64 2) (.int .i64 1) (.string no) = wq2 := ⟨_, rfl⟩
  rw [hwq2] at Bq2 cr
  unfold put3 at hwq2
  have cru40 := cr.out.1.1
  have cru41 := cr.out.1.2.1
  have cru42 := cr.out.1.2.2
  go_wp2_with fail
  refine bodyPost_ret (by simp [results, Tryz.results45, go_sem, cru40, cru41, cru42]; try rfl) rfl ?_
  exact ⟨rfl, Bq2.out⟩
set_option maxHeartbeats 1000000 in
set_option maxRecDepth 100000 in
theorem do_even_false (y0 : Va) (h : (y0.i.tmod 2 == 0) = false) (b o cap : Nat) (w : World) (HT : Tb w) (C0 : VaAt w b (o) y0) : Calls Tryz.prog 45 #[.slice (some ⟨b, o, none⟩) 1 cap] w fun e w' => e = .returned (vV 2 0 no) ∧ Below w.heap.size w w' := by
  replace HT := hide HT
  go_enter Tryz.func45, Tryz.ntmps45
  try simp only [List.append]
  have cr : Hid (O3 (w.alloc (vO 0 0 no)) (w.heap.size) (.int .i64 0) (.int .i64 0) (.string no)) := hide (by have h0 := (O3.new w (.int .i64 0) (.int .i64 0) (.string no) 30); exact h0)
  replace C0 := hide (C0.keep ((Below.refl _ _).alloc (Nat.le_refl _) (vO 0 0 no)))
  have d1_01 : ((w.alloc (vO 0 0 no))).cell? ⟨b, o + 1, none⟩ = some (.int .i64 y0.i) := C0.out.2.1
  go_wp2_with fail
  refine (ctruth_no.out _).mono ?_
  rintro e w1 ⟨rfl, hb1⟩
  clear d1_01
  have B1 := hide (next (step (Below.refl w.heap.size w) (vO 0 0 no)) hb1)
  replace cr := hide (cr.out.keep hb1)
  replace C0 := hide (C0.out.keep hb1)
  have cru30 := cr.out.1.1
  have cru31 := cr.out.1.2.1
  have cru32 := cr.out.1.2.2
  have cru3f := cr.out.2
  have Bq2 := hide (below_put3 (b := w.heap.size) (B1.out) (by omega) (.int .i64 2) (.int .i64 0) (.string no))
  replace cr := hide (cr.out.put (.int .i64 2) (.int .i64 0) (.string no))
  obtain ⟨wq2, hwq2⟩ : ∃ wq2, put3 (w1) (w.heap.size) (.int .i64 2) (.int .i64 0) (.string no) = wq2 := ⟨_, rfl⟩
  rw [hwq2] at Bq2 cr
  unfold put3 at hwq2
  have cru40 := cr.out.1.1
  have cru41 := cr.out.1.2.1
  have cru42 := cr.out.1.2.2
  go_wp2_with fail
  refine bodyPost_ret (by simp [results, Tryz.results45, go_sem, cru40, cru41, cru42]; try rfl) rfl ?_
  exact ⟨rfl, Bq2.out⟩
set_option maxHeartbeats 1000000 in
set_option maxRecDepth 100000 in
theorem do_odd_true (y0 : Va) (h : (y0.i.tmod 2 != 0) = true) (b o cap : Nat) (w : World) (HT : Tb w) (C0 : VaAt w b (o) y0) : Calls Tryz.prog 46 #[.slice (some ⟨b, o, none⟩) 1 cap] w fun e w' => e = .returned (vV 2 1 no) ∧ Below w.heap.size w w' := by
  replace HT := hide HT
  go_enter Tryz.func46, Tryz.ntmps46
  try simp only [List.append]
  have cr : Hid (O3 (w.alloc (vO 0 0 no)) (w.heap.size) (.int .i64 0) (.int .i64 0) (.string no)) := hide (by have h0 := (O3.new w (.int .i64 0) (.int .i64 0) (.string no) 30); exact h0)
  replace C0 := hide (C0.keep ((Below.refl _ _).alloc (Nat.le_refl _) (vO 0 0 no)))
  have d1_01 : ((w.alloc (vO 0 0 no))).cell? ⟨b, o + 1, none⟩ = some (.int .i64 y0.i) := C0.out.2.1
  go_wp2_with fail
  refine (ctruth_yes.out _).mono ?_
  rintro e w1 ⟨rfl, hb1⟩
  clear d1_01
  have B1 := hide (next (step (Below.refl w.heap.size w) (vO 0 0 no)) hb1)
  replace cr := hide (cr.out.keep hb1)
  replace C0 := hide (C0.out.keep hb1)
  have cru30 := cr.out.1.1
  have cru31 := cr.out.1.2.1
  have cru32 := cr.out.1.2.2
  have cru3f := cr.out.2
  have Bq2 := hide (below_put3 (b := w.heap.size) (B1.out) (by omega) (.int .i64 2) (.int .i64 1) (.string no))
  replace cr := hide (cr.out.put (.int .i64 2) (.int .i64 1) (.string no))
  obtain ⟨wq2, hwq2⟩ : ∃ wq2, put3 (w1) (w.heap.size) (.int .i64 2) (.int .i64 1) (.string no) = wq2 := ⟨_, rfl⟩
  rw [hwq2] at Bq2 cr
  unfold put3 at hwq2
  have cru40 := cr.out.1.1
  have cru41 := cr.out.1.2.1
  have cru42 := cr.out.1.2.2
  go_wp2_with fail
  refine bodyPost_ret (by simp [results, Tryz.results46, go_sem, cru40, cru41, cru42]; try rfl) rfl ?_
  exact ⟨rfl, Bq2.out⟩
set_option maxHeartbeats 1000000 in
set_option maxRecDepth 100000 in
theorem do_odd_false (y0 : Va) (h : (y0.i.tmod 2 != 0) = false) (b o cap : Nat) (w : World) (HT : Tb w) (C0 : VaAt w b (o) y0) : Calls Tryz.prog 46 #[.slice (some ⟨b, o, none⟩) 1 cap] w fun e w' => e = .returned (vV 2 0 no) ∧ Below w.heap.size w w' := by
  replace HT := hide HT
  go_enter Tryz.func46, Tryz.ntmps46
  try simp only [List.append]
  have cr : Hid (O3 (w.alloc (vO 0 0 no)) (w.heap.size) (.int .i64 0) (.int .i64 0) (.string no)) := hide (by have h0 := (O3.new w (.int .i64 0) (.int .i64 0) (.string no) 30); exact h0)
  replace C0 := hide (C0.keep ((Below.refl _ _).alloc (Nat.le_refl _) (vO 0 0 no)))
  have d1_01 : ((w.alloc (vO 0 0 no))).cell? ⟨b, o + 1, none⟩ = some (.int .i64 y0.i) := C0.out.2.1
  go_wp2_with fail
  refine (ctruth_no.out _).mono ?_
  rintro e w1 ⟨rfl, hb1⟩
  clear d1_01
  have B1 := hide (next (step (Below.refl w.heap.size w) (vO 0 0 no)) hb1)
  replace cr := hide (cr.out.keep hb1)
  replace C0 := hide (C0.out.keep hb1)
  have cru30 := cr.out.1.1
  have cru31 := cr.out.1.2.1
  have cru32 := cr.out.1.2.2
  have cru3f := cr.out.2
  have Bq2 := hide (below_put3 (b := w.heap.size) (B1.out) (by omega) (.int .i64 2) (.int .i64 0) (.string no))
  replace cr := hide (cr.out.put (.int .i64 2) (.int .i64 0) (.string no))
  obtain ⟨wq2, hwq2⟩ : ∃ wq2, put3 (w1) (w.heap.size) (.int .i64 2) (.int .i64 0) (.string no) = wq2 := ⟨_, rfl⟩
  rw [hwq2] at Bq2 cr
  unfold put3 at hwq2
  have cru40 := cr.out.1.1
  have cru41 := cr.out.1.2.1
  have cru42 := cr.out.1.2.2
  go_wp2_with fail
  refine bodyPost_ret (by simp [results, Tryz.results46, go_sem, cru40, cru41, cru42]; try rfl) rfl ?_
  exact ⟨rfl, Bq2.out⟩
set_option maxHeartbeats 1000000 in
set_option maxRecDepth 100000 in
theorem do_not_true (y0 : Va) (h : (y0.i == 0) = true) (b o cap : Nat) (w : World) (HT : Tb w) (C0 : VaAt w b (o) y0) : Calls Tryz.prog 51 #[.slice (some ⟨b, o, none⟩) 1 cap] w fun e w' => e = .returned (vV 2 1 no) ∧ Below w.heap.size w w' := by
  replace HT := hide HT
  go_enter Tryz.func51, Tryz.ntmps51
  try simp only [List.append]
  have cr : Hid (O3 (w.alloc (vO 0 0 no)) (w.heap.size) (.int .i64 0) (.int .i64 0) (.string no)) := hide (by have h0 := (O3.new w (.int .i64 0) (.int .i64 0) (.string no) 30); exact h0)
  replace C0 := hide (C0.keep ((Below.refl _ _).alloc (Nat.le_refl _) (vO 0 0 no)))
  have d1_01 : ((w.alloc (vO 0 0 no))).cell? ⟨b, o + 1, none⟩ = some (.int .i64 y0.i) := C0.out.2.1
  go_wp2_with fail
  refine (ctruth_yes.out _).mono ?_
  rintro e w1 ⟨rfl, hb1⟩
  clear d1_01
  have B1 := hide (next (step (Below.refl w.heap.size w) (vO 0 0 no)) hb1)
  replace cr := hide (cr.out.keep hb1)
  replace C0 := hide (C0.out.keep hb1)
  have cru30 := cr.out.1.1
  have cru31 := cr.out.1.2.1
  have cru32 := cr.out.1.2.2
  have cru3f := cr.out.2
  have Bq2 := hide (below_put3 (b := w.heap.size) (B1.out) (by omega) (.int .i64 2) (.int .i64 1) (.string no))
  replace cr := hide (cr.out.put (.int .i64 2) (.int .i64 1) (.string no))
  obtain ⟨wq2, hwq2⟩ : ∃ wq2, put3 (w1) (w.heap.size) (.int .i64 2) (.int .i64 1) (.string no) = wq2 := ⟨_, rfl⟩
  rw [hwq2] at Bq2 cr
  unfold put3 at hwq2
  have cru40 := cr.out.1.1
  have cru41 := cr.out.1.2.1
  have cru42 := cr.out.1.2.2
  go_wp2_with fail
  refine bodyPost_ret (by simp [results, Tryz.results51, go_sem, cru40, cru41, cru42]; try rfl) rfl ?_
  exact ⟨rfl, Bq2.out⟩
set_option maxHeartbeats 1000000 in
set_option maxRecDepth 100000 in
theorem do_is0_true (y0 : Va) (h : (y0.k == 0) = true) (b o cap : Nat) (w : World) (HT : Tb w) (C0 : VaAt w b (o) y0) : Calls Tryz.prog 88 #[.slice (some ⟨b, o, none⟩) 1 cap] w fun e w' => e = .returned (vV 2 1 no) ∧ Below w.heap.size w w' := by
  replace HT := hide HT
  go_enter Tryz.func88, Tryz.ntmps88
  try simp only [List.append]
  have cr : Hid (O3 (w.alloc (vO 0 0 no)) (w.heap.size) (.int .i64 0) (.int .i64 0) (.string no)) := hide (by have h0 := (O3.new w (.int .i64 0) (.int .i64 0) (.string no) 30); exact h0)
  replace C0 := hide (C0.keep ((Below.refl _ _).alloc (Nat.le_refl _) (vO 0 0 no)))
  have d1_00 : ((w.alloc (vO 0 0 no))).cell? ⟨b, o, none⟩ = some (.int .i64 y0.k) := C0.out.1
  go_wp2_with fail
  refine (ctruth_yes.out _).mono ?_
  rintro e w1 ⟨rfl, hb1⟩
  clear d1_00
  have B1 := hide (next (step (Below.refl w.heap.size w) (vO 0 0 no)) hb1)
  replace cr := hide (cr.out.keep hb1)
  replace C0 := hide (C0.out.keep hb1)
  have cru30 := cr.out.1.1
  have cru31 := cr.out.1.2.1
  have cru32 := cr.out.1.2.2
  have cru3f := cr.out.2
  have Bq2 := hide (below_put3 (b := w.heap.size) (B1.out) (by omega) (.int .i64 2) (.int .i64 1) (.string no))
  replace cr := hide (cr.out.put (.int .i64 2) (.int .i64 1) (.string no))
  obtain ⟨wq2, hwq2⟩ : ∃ wq2, put3 (w1) (w.heap.size) (.int .i64 2) (.int .i64 1) (.string no) = wq2 := ⟨_, rfl⟩
  rw [hwq2] at Bq2 cr
  unfold put3 at hwq2
  have cru40 := cr.out.1.1
  have cru41 := cr.out.1.2.1
  have cru42 := cr.out.1.2.2
  go_wp2_with fail
  refine bodyPost_ret (by simp [results, Tryz.results88, go_sem, cru40, cru41, cru42]; try rfl) rfl ?_
  exact ⟨rfl, Bq2.out⟩
set_option maxHeartbeats 1000000 in
set_option maxRecDepth 100000 in
theorem do_is1_true (y0 : Va) (h : (y0.k == 1) = true) (b o cap : Nat) (w : World) (HT : Tb w) (C0 : VaAt w b (o) y0) : Calls Tryz.prog 89 #[.slice (some ⟨b, o, none⟩) 1 cap] w fun e w' => e = .returned (vV 2 1 no) ∧ Below w.heap.size w w' := by
  replace HT := hide HT
  go_enter Tryz.func89, Tryz.ntmps89
  try simp only [List.append]
  have cr : Hid (O3 (w.alloc (vO 0 0 no)) (w.heap.size) (.int .i64 0) (.int .i64 0) (.string no)) := hide (by have h0 := (O3.new w (.int .i64 0) (.int .i64 0) (.string no) 30); exact h0)
  replace C0 := hide (C0.keep ((Below.refl _ _).alloc (Nat.le_refl _) (vO 0 0 no)))
  have d1_00 : ((w.alloc (vO 0 0 no))).cell? ⟨b, o, none⟩ = some (.int .i64 y0.k) := C0.out.1
  go_wp2_with fail
  refine (ctruth_yes.out _).mono ?_
  rintro e w1 ⟨rfl, hb1⟩
  clear d1_00
  have B1 := hide (next (step (Below.refl w.heap.size w) (vO 0 0 no)) hb1)
  replace cr := hide (cr.out.keep hb1)
  replace C0 := hide (C0.out.keep hb1)
  have cru30 := cr.out.1.1
  have cru31 := cr.out.1.2.1
  have cru32 := cr.out.1.2.2
  have cru3f := cr.out.2
  have Bq2 := hide (below_put3 (b := w.heap.size) (B1.out) (by omega) (.int .i64 2) (.int .i64 1) (.string no))
  replace cr := hide (cr.out.put (.int .i64 2) (.int .i64 1) (.string no))
  obtain ⟨wq2, hwq2⟩ : ∃ wq2, put3 (w1) (w.heap.size) (.int .i64 2) (.int .i64 1) (.string no) = wq2 := ⟨_, rfl⟩
  rw [hwq2] at Bq2 cr
  unfold put3 at hwq2
  have cru40 := cr.out.1.1
  have cru41 := cr.out.1.2.1
  have cru42 := cr.out.1.2.2
  go_wp2_with fail
  refine bodyPost_ret (by simp [results, Tryz.results89, go_sem, cru40, cru41, cru42]; try rfl) rfl ?_
  exact ⟨rfl, Bq2.out⟩
set_option maxHeartbeats 1000000 in
set_option maxRecDepth 100000 in
theorem do_is3_true (y0 : Va) (h : (y0.k == 3) = true) (b o cap : Nat) (w : World) (HT : Tb w) (C0 : VaAt w b (o) y0) : Calls Tryz.prog 90 #[.slice (some ⟨b, o, none⟩) 1 cap] w fun e w' => e = .returned (vV 2 1 no) ∧ Below w.heap.size w w' := by
  replace HT := hide HT
  go_enter Tryz.func90, Tryz.ntmps90
  try simp only [List.append]
  have cr : Hid (O3 (w.alloc (vO 0 0 no)) (w.heap.size) (.int .i64 0) (.int .i64 0) (.string no)) := hide (by have h0 := (O3.new w (.int .i64 0) (.int .i64 0) (.string no) 30); exact h0)
  replace C0 := hide (C0.keep ((Below.refl _ _).alloc (Nat.le_refl _) (vO 0 0 no)))
  have d1_00 : ((w.alloc (vO 0 0 no))).cell? ⟨b, o, none⟩ = some (.int .i64 y0.k) := C0.out.1
  go_wp2_with fail
  refine (ctruth_yes.out _).mono ?_
  rintro e w1 ⟨rfl, hb1⟩
  clear d1_00
  have B1 := hide (next (step (Below.refl w.heap.size w) (vO 0 0 no)) hb1)
  replace cr := hide (cr.out.keep hb1)
  replace C0 := hide (C0.out.keep hb1)
  have cru30 := cr.out.1.1
  have cru31 := cr.out.1.2.1
  have cru32 := cr.out.1.2.2
  have cru3f := cr.out.2
  have Bq2 := hide (below_put3 (b := w.heap.size) (B1.out) (by omega) (.int .i64 2) (.int .i64 1) (.string no))
  replace cr := hide (cr.out.put (.int .i64 2) (.int .i64 1) (.string no))
  obtain ⟨wq2, hwq2⟩ : ∃ wq2, put3 (w1) (w.heap.size) (.int .i64 2) (.int .i64 1) (.string no) = wq2 := ⟨_, rfl⟩
  rw [hwq2] at Bq2 cr
  unfold put3 at hwq2
  have cru40 := cr.out.1.1
  have cru41 := cr.out.1.2.1
  have cru42 := cr.out.1.2.2
  go_wp2_with fail
  refine bodyPost_ret (by simp [results, Tryz.results90, go_sem, cru40, cru41, cru42]; try rfl) rfl ?_
  exact ⟨rfl, Bq2.out⟩
set_option maxHeartbeats 1000000 in
set_option maxRecDepth 100000 in
theorem do_is2_true (y0 : Va) (h : (y0.k == 2) = true) (b o cap : Nat) (w : World) (HT : Tb w) (C0 : VaAt w b (o) y0) : Calls Tryz.prog 91 #[.slice (some ⟨b, o, none⟩) 1 cap] w fun e w' => e = .returned (vV 2 1 no) ∧ Below w.heap.size w w' := by
  replace HT := hide HT
  go_enter Tryz.func91, Tryz.ntmps91
  try simp only [List.append]
  have cr : Hid (O3 (w.alloc (vO 0 0 no)) (w.heap.size) (.int .i64 0) (.int .i64 0) (.string no)) := hide (by have h0 := (O3.new w (.int .i64 0) (.int .i64 0) (.string no) 30); exact h0)
  replace C0 := hide (C0.keep ((Below.refl _ _).alloc (Nat.le_refl _) (vO 0 0 no)))
  have d1_00 : ((w.alloc (vO 0 0 no))).cell? ⟨b, o, none⟩ = some (.int .i64 y0.k) := C0.out.1
  go_wp2_with fail
  refine (ctruth_yes.out _).mono ?_
  rintro e w1 ⟨rfl, hb1⟩
  clear d1_00
  have B1 := hide (next (step (Below.refl w.heap.size w) (vO 0 0 no)) hb1)
  replace cr := hide (cr.out.keep hb1)
  replace C0 := hide (C0.out.keep hb1)
  have cru30 := cr.out.1.1
  have cru31 := cr.out.1.2.1
  have cru32 := cr.out.1.2.2
  have cru3f := cr.out.2
  have Bq2 := hide (below_put3 (b := w.heap.size) (B1.out) (by omega) (.int .i64 2) (.int .i64 1) (.string no))
  replace cr := hide (cr.out.put (.int .i64 2) (.int .i64 1) (.string no))
  obtain ⟨wq2, hwq2⟩ : ∃ wq2, put3 (w1) (w.heap.size) (.int .i64 2) (.int .i64 1) (.string no) = wq2 := ⟨_, rfl⟩
  rw [hwq2] at Bq2 cr
  unfold put3 at hwq2
  have cru40 := cr.out.1.1
  have cru41 := cr.out.1.2.1
  have cru42 := cr.out.1.2.2
  go_wp2_with fail
  refine bodyPost_ret (by simp [results, Tryz.results91, go_sem, cru40, cru41, cru42]; try rfl) rfl ?_
  exact ⟨rfl, Bq2.out⟩
set_option maxHeartbeats 1000000 in
set_option maxRecDepth 100000 in
theorem do_is4_true (y0 : Va) (h : (y0.k == 4) = true) (b o cap : Nat) (w : World) (HT : Tb w) (C0 : VaAt w b (o) y0) : Calls Tryz.prog 92 #[.slice (some ⟨b, o, none⟩) 1 cap] w fun e w' => e = .returned (vV 2 1 no) ∧ Below w.heap.size w w' := by
  replace HT := hide HT
  go_enter Tryz.func92, Tryz.ntmps92
  try simp only [List.append]
  have cr : Hid (O3 (w.alloc (vO 0 0 no)) (w.heap.size) (.int .i64 0) (.int .i64 0) (.string no)) := hide (by have h0 := (O3.new w (.int .i64 0) (.int .i64 0) (.string no) 30); exact h0)
  replace C0 := hide (C0.keep ((Below.refl _ _).alloc (Nat.le_refl _) (vO 0 0 no)))
  have d1_00 : ((w.alloc (vO 0 0 no))).cell? ⟨b, o, none⟩ = some (.int .i64 y0.k) := C0.out.1
  go_wp2_with fail
  refine (ctruth_yes.out _).mono ?_
  rintro e w1 ⟨rfl, hb1⟩
  clear d1_00
  have B1 := hide (next (step (Below.refl w.heap.size w) (vO 0 0 no)) hb1)
  replace cr := hide (cr.out.keep hb1)
  replace C0 := hide (C0.out.keep hb1)
  have cru30 := cr.out.1.1
  have cru31 := cr.out.1.2.1
  have cru32 := cr.out.1.2.2
  have cru3f := cr.out.2
  have Bq2 := hide (below_put3 (b := w.heap.size) (B1.out) (by omega) (.int .i64 2) (.int .i64 1) (.string no))
  replace cr := hide (cr.out.put (.int .i64 2) (.int .i64 1) (.string no))
  obtain ⟨wq2, hwq2⟩ : ∃ wq2, put3 (w1) (w.heap.size) (.int .i64 2) (.int .i64 1) (.string no) = wq2 := ⟨_, rfl⟩
  rw [hwq2] at Bq2 cr
  unfold put3 at hwq2
  have cru40 := cr.out.1.1
  have cru41 := cr.out.1.2.1
  have cru42 := cr.out.1.2.2
  go_wp2_with fail
  refine bodyPost_ret (by simp [results, Tryz.results92, go_sem, cru40, cru41, cru42]; try rfl) rfl ?_
  exact ⟨rfl, Bq2.out⟩
set_option maxHeartbeats 1000000 in
set_option maxRecDepth 100000 in
theorem do_not_false (y0 : Va) (h : (y0.i == 0) = false) (b o cap : Nat) (w : World) (HT : Tb w) (C0 : VaAt w b (o) y0) : Calls Tryz.prog 51 #[.slice (some ⟨b, o, none⟩) 1 cap] w fun e w' => e = .returned (vV 2 0 no) ∧ Below w.heap.size w w' := by
  replace HT := hide HT
  go_enter Tryz.func51, Tryz.ntmps51
  try simp only [List.append]
  have cr : Hid (O3 (w.alloc (vO 0 0 no)) (w.heap.size) (.int .i64 0) (.int .i64 0) (.string no)) := hide (by have h0 := (O3.new w (.int .i64 0) (.int .i64 0) (.string no) 30); exact h0)
  replace C0 := hide (C0.keep ((Below.refl _ _).alloc (Nat.le_refl _) (vO 0 0 no)))
  have d1_01 : ((w.alloc (vO 0 0 no))).cell? ⟨b, o + 1, none⟩ = some (.int .i64 y0.i) := C0.out.2.1
  go_wp2_with fail
  refine (ctruth_no.out _).mono ?_
  rintro e w1 ⟨rfl, hb1⟩
  clear d1_01
  have B1 := hide (next (step (Below.refl w.heap.size w) (vO 0 0 no)) hb1)
  replace cr := hide (cr.out.keep hb1)
  replace C0 := hide (C0.out.keep hb1)
  have cru30 := cr.out.1.1
  have cru31 := cr.out.1.2.1
  have cru32 := cr.out.1.2.2
  have cru3f := cr.out.2
  have Bq2 := hide (below_put3 (b := w.heap.size) (B1.out) (by omega) (.int .i64 2) (.int .i64 0) (.string no))
  replace cr := hide (cr.out.put (.int .i64 2) (.int .i64 0) (.string no))
  obtain ⟨wq2, hwq2⟩ : ∃ wq2, put3 (w1) (w.heap.size) (.int .i64 2) (.int .i64 0) (.string no) = wq2 := ⟨_, rfl⟩
  rw [hwq2] at Bq2 cr
  unfold put3 at hwq2
  have cru40 := cr.out.1.1
  have cru41 := cr.out.1.2.1
  have cru42 := cr.out.1.2.2
  go_wp2_with fail
  refine bodyPost_ret (by simp [results, Tryz.results51, go_sem, cru40, cru41, cru42]; try rfl) rfl ?_
  exact ⟨rfl, Bq2.out⟩
set_option maxHeartbeats 1000000 in
set_option maxRecDepth 100000 in
theorem do_is0_false (y0 : Va) (h : (y0.k == 0) = false) (b o cap : Nat) (w : World) (HT : Tb w) (C0 : VaAt w b (o) y0) : Calls Tryz.prog 88 #[.slice (some ⟨b, o, none⟩) 1 cap] w fun e w' => e = .returned (vV 2 0 no) ∧ Below w.heap.size w w' := by
  replace HT := hide HT
  go_enter Tryz.func88, Tryz.ntmps88
  try simp only [List.append]
  have cr : Hid (O3 (w.alloc (vO 0 0 no)) (w.heap.size) (.int .i64 0) (.int .i64 0) (.string no)) := hide (by have h0 := (O3.new w (.int .i64 0) (.int .i64 0) (.string no) 30); exact h0)
  replace C0 := hide (C0.keep ((Below.refl _ _).alloc (Nat.le_refl _) (vO 0 0 no)))
  have d1_00 : ((w.alloc (vO 0 0 no))).cell? ⟨b, o, none⟩ = some (.int .i64 y0.k) := C0.out.1
  go_wp2_with fail
  refine (ctruth_no.out _).mono ?_
  rintro e w1 ⟨rfl, hb1⟩
  clear d1_00
  have B1 := hide (next (step (Below.refl w.heap.size w) (vO 0 0 no)) hb1)
  replace cr := hide (cr.out.keep hb1)
  replace C0 := hide (C0.out.keep hb1)
  have cru30 := cr.out.1.1
  have cru31 := cr.out.1.2.1
  have cru32 := cr.out.1.2.2
  have cru3f := cr.out.2
  have Bq2 := hide (below_put3 (b := w.heap.size) (B1.out) (by omega) (.int .i64 2) (.int .i64 0) (.string no))
  replace cr := hide (cr.out.put (.int .i64 2) (.int .i64 0) (.string no))
  obtain ⟨wq2, hwq2⟩ : ∃ wq2, put3 (w1) (w.heap.size) (.int .i64 2) (.int .i64 0) (.string no) = wq2 := ⟨_, rfl⟩
  rw [hwq2] at Bq2 cr
  unfold put3 at hwq2
  have cru40 := cr.out.1.1
  have cru41 := cr.out.1.2.1
  have cru42 := cr.out.1.2.2
  go_wp2_with fail
  refine bodyPost_ret (by simp [results, Tryz.results88, go_sem, cru40, cru41, cru42]; try rfl) rfl ?_
  exact ⟨rfl, Bq2.out⟩
set_option maxHeartbeats 1000000 in
set_option maxRecDepth 100000 in
theorem do_is1_false (y0 : Va) (h : (y0.k == 1) = false) (b o cap : Nat) (w : World) (HT : Tb w) (C0 : VaAt w b (o) y0) : Calls Tryz.prog 89 #[.slice (some ⟨b, o, none⟩) 1 cap] w fun e w' => e = .returned (vV 2 0 no) ∧ Below w.heap.size w w' := by
  replace HT := hide HT
  go_enter Tryz.func89, Tryz.ntmps89
  try simp only [List.append]
  have cr : Hid (O3 (w.alloc (vO 0 0 no)) (w.heap.size) (.int .i64 0) (.int .i64 0) (.string no)) := hide (by have h0 := (O3.new w (.int .i64 0) (.int .i64 0) (.string no) 30); exact h0)
  replace C0 := hide (C0.keep ((Below.refl _ _).alloc (Nat.le_refl _) (vO 0 0 no)))
  have d1_00 : ((w.alloc (vO 0 0 no))).cell? ⟨b, o, none⟩ = some (.int .i64 y0.k) := C0.out.1
  go_wp2_with fail
  refine (ctruth_no.out _).mono ?_
  rintro e w1 ⟨rfl, hb1⟩
  clear d1_00
  have B1 := hide (next (step (Below.refl w.heap.size w) (vO 0 0 no)) hb1)
  replace cr := hide (cr.out.keep hb1)
  replace C0 := hide (C0.out.keep hb1)
  have cru30 := cr.out.1.1
  have cru31 := cr.out.1.2.1
  have cru32 := cr.out.1.2.2
  have cru3f := cr.out.2
  have Bq2 := hide (below_put3 (b := w.heap.size) (B1.out) (by omega) (.int .i64 2) (.int .i64 0) (.string no))
  replace cr := hide (cr.out.put (.int .i64 2) (.int .i64 0) (.string no))
  obtain ⟨wq2, hwq2⟩ : ∃ wq2, put3 (w1) (w.heap.size) (.int .i64 2) (.int .i64 0) (.string no) = wq2 := ⟨_, rfl⟩
  rw [hwq2] at Bq2 cr
  unfold put3 at hwq2
  have cru40 := cr.out.1.1
  have cru41 := cr.out.1.2.1
  have cru42 := cr.out.1.2.2
  go_wp2_with fail
  refine bodyPost_ret (by simp [results, Tryz.results89, go_sem, cru40, cru41, cru42]; try rfl) rfl ?_
  exact ⟨rfl, Bq2.out⟩
set_option maxHeartbeats 1000000 in
set_option maxRecDepth 100000 in
theorem do_is3_false (y0 : Va) (h : (y0.k == 3) = false) (b o cap : Nat) (w : World) (HT : Tb w) (C0 : VaAt w b (o) y0) : Calls Tryz.prog 90 #[.slice (some ⟨b, o, none⟩) 1 cap] w fun e w' => e = .returned (vV 2 0 no) ∧ Below w.heap.size w w' := by
  replace HT := hide HT
  go_enter Tryz.func90, Tryz.ntmps90
  try simp only [List.append]
  have cr : Hid (O3 (w.alloc (vO 0 0 no)) (w.heap.size) (.int .i64 0) (.int .i64 0) (.string no)) := hide (by have h0 := (O3.new w (.int .i64 0) (.int .i64 0) (.string no) 30); exact h0)
  replace C0 := hide (C0.keep ((Below.refl _ _).alloc (Nat.le_refl _) (vO 0 0 no)))
  have d1_00 : ((w.alloc (vO 0 0 no))).cell? ⟨b, o, none⟩ = some (.int .i64 y0.k) := C0.out.1
  go_wp2_with fail
  refine (ctruth_no.out _).mono ?_
  rintro e w1 ⟨rfl, hb1⟩
  clear d1_00
  have B1 := hide (next (step (Below.refl w.heap.size w) (vO 0 0 no)) hb1)
  replace cr := hide (cr.out.keep hb1)
  replace C0 := hide (C0.out.keep hb1)
  have cru30 := cr.out.1.1
  have cru31 := cr.out.1.2.1
  have cru32 := cr.out.1.2.2
  have cru3f := cr.out.2
  have Bq2 := hide (below_put3 (b := w.heap.size) (B1.out) (by omega) (.int .i64 2) (.int .i64 0) (.string no))
  replace cr := hide (cr.out.put (.int .i64 2) (.int .i64 0) (.string no))
  obtain ⟨wq2, hwq2⟩ : ∃ wq2, put3 (w1) (w.heap.size) (.int .i64 2) (.int .i64 0) (.string no) = wq2 := ⟨_, rfl⟩
  rw [hwq2] at Bq2 cr
  unfold put3 at hwq2
  have cru40 := cr.out.1.1
  have cru41 := cr.out.1.2.1
  have cru42 := cr.out.1.2.2
  go_wp2_with fail
  refine bodyPost_ret (by simp [results, Tryz.results90, go_sem, cru40, cru41, cru42]; try rfl) rfl ?_
  exact ⟨rfl, Bq2.out⟩
set_option maxHeartbeats 1000000 in
set_option maxRecDepth 100000 in
theorem do_is2_false (y0 : Va) (h : (y0.k == 2) = false) (b o cap : Nat) (w : World) (HT : Tb w) (C0 : VaAt w b (o) y0) : Calls Tryz.prog 91 #[.slice (some ⟨b, o, none⟩) 1 cap] w fun e w' => e = .returned (vV 2 0 no) ∧ Below w.heap.size w w' := by
  replace HT := hide HT
  go_enter Tryz.func91, Tryz.ntmps91
  try simp only [List.append]
  have cr : Hid (O3 (w.alloc (vO 0 0 no)) (w.heap.size) (.int .i64 0) (.int .i64 0) (.string no)) := hide (by have h0 := (O3.new w (.int .i64 0) (.int .i64 0) (.string no) 30); exact h0)
  replace C0 := hide (C0.keep ((Below.refl _ _).alloc (Nat.le_refl _) (vO 0 0 no)))
  have d1_00 : ((w.alloc (vO 0 0 no))).cell? ⟨b, o, none⟩ = some (.int .i64 y0.k) := C0.out.1
  go_wp2_with fail
  refine (ctruth_no.out _).mono ?_
  rintro e w1 ⟨rfl, hb1⟩
  clear d1_00
  have B1 := hide (next (step (Below.refl w.heap.size w) (vO 0 0 no)) hb1)
  replace cr := hide (cr.out.keep hb1)
  replace C0 := hide (C0.out.keep hb1)
  have cru30 := cr.out.1.1
  have cru31 := cr.out.1.2.1
  have cru32 := cr.out.1.2.2
  have cru3f := cr.out.2
  have Bq2 := hide (below_put3 (b := w.heap.size) (B1.out) (by omega) (.int .i64 2) (.int .i64 0) (.string no))
  replace cr := hide (cr.out.put (.int .i64 2) (.int .i64 0) (.string no))
  obtain ⟨wq2, hwq2⟩ : ∃ wq2, put3 (w1) (w.heap.size) (.int .i64 2) (.int .i64 0) (.string no) = wq2 := ⟨_, rfl⟩
  rw [hwq2] at Bq2 cr
  unfold put3 at hwq2
  have cru40 := cr.out.1.1
  have cru41 := cr.out.1.2.1
  have cru42 := cr.out.1.2.2
  go_wp2_with fail
  refine bodyPost_ret (by simp [results, Tryz.results91, go_sem, cru40, cru41, cru42]; try rfl) rfl ?_
  exact ⟨rfl, Bq2.out⟩
set_option maxHeartbeats 1000000 in
set_option maxRecDepth 100000 in
theorem do_is4_false (y0 : Va) (h : (y0.k == 4) = false) (b o cap : Nat) (w : World) (HT : Tb w) (C0 : VaAt w b (o) y0) : Calls Tryz.prog 92 #[.slice (some ⟨b, o, none⟩) 1 cap] w fun e w' => e = .returned (vV 2 0 no) ∧ Below w.heap.size w w' := by
  replace HT := hide HT
  go_enter Tryz.func92, Tryz.ntmps92
  try simp only [List.append]
  have cr : Hid (O3 (w.alloc (vO 0 0 no)) (w.heap.size) (.int .i64 0) (.int .i64 0) (.string no)) := hide (by have h0 := (O3.new w (.int .i64 0) (.int .i64 0) (.string no) 30); exact h0)
  replace C0 := hide (C0.keep ((Below.refl _ _).alloc (Nat.le_refl _) (vO 0 0 no)))
  have d1_00 : ((w.alloc (vO 0 0 no))).cell? ⟨b, o, none⟩ = some (.int .i64 y0.k) := C0.out.1
  go_wp2_with fail
  refine (ctruth_no.out _).mono ?_
  rintro e w1 ⟨rfl, hb1⟩
  clear d1_00
  have B1 := hide (next (step (Below.refl w.heap.size w) (vO 0 0 no)) hb1)
  replace cr := hide (cr.out.keep hb1)
  replace C0 := hide (C0.out.keep hb1)
  have cru30 := cr.out.1.1
  have cru31 := cr.out.1.2.1
  have cru32 := cr.out.1.2.2
  have cru3f := cr.out.2
  have Bq2 := hide (below_put3 (b := w.heap.size) (B1.out) (by omega) (.int .i64 2) (.int .i64 0) (.string no))
  replace cr := hide (cr.out.put (.int .i64 2) (.int .i64 0) (.string no))
  obtain ⟨wq2, hwq2⟩ : ∃ wq2, put3 (w1) (w.heap.size) (.int .i64 2) (.int .i64 0) (.string no) = wq2 := ⟨_, rfl⟩
  rw [hwq2] at Bq2 cr
  unfold put3 at hwq2
  have cru40 := cr.out.1.1
  have cru41 := cr.out.1.2.1
  have cru42 := cr.out.1.2.2
  go_wp2_with fail
  refine bodyPost_ret (by simp [results, Tryz.results92, go_sem, cru40, cru41, cru42]; try rfl) rfl ?_
  exact ⟨rfl, Bq2.out⟩
set_option maxHeartbeats 1000000 in
set_option maxRecDepth 100000 in
theorem do_value (y0 : Va)  (b o cap : Nat) (w : World) (HT : Tb w) (C0 : VaAt w b (o) y0) : Calls Tryz.prog 83 #[.slice (some ⟨b, o, none⟩) 1 cap] w fun e w' => e = .returned (vV y0.k y0.i y0.t) ∧ Below w.heap.size w w' := by
  replace HT := hide HT
  go_enter Tryz.func83, Tryz.ntmps83
  try simp only [List.append]
  have cr : Hid (O3 (w.alloc (vO 0 0 no)) (w.heap.size) (.int .i64 0) (.int .i64 0) (.string no)) := hide (by have h0 := (O3.new w (.int .i64 0) (.int .i64 0) (.string no) 30); exact h0)
  replace C0 := hide (C0.keep ((Below.refl _ _).alloc (Nat.le_refl _) (vO 0 0 no)))
  have d1_00 : ((w.alloc (vO 0 0 no))).cell? ⟨b, o, none⟩ = some (.int .i64 y0.k) := C0.out.1
  have d1_01 : ((w.alloc (vO 0 0 no))).cell? ⟨b, o + 1, none⟩ = some (.int .i64 y0.i) := C0.out.2.1
  have d1_02 : ((w.alloc (vO 0 0 no))).cell? ⟨b, o + 2, none⟩ = some (.string y0.t) := C0.out.2.2
  go_wp2_with fail
  refine bodyPost_ret (by simp [results, Tryz.results83, go_sem]; try rfl) rfl ?_
  exact ⟨rfl, step (Below.refl _ _) _⟩
set_option maxHeartbeats 1000000 in
set_option maxRecDepth 100000 in
theorem do_text (y0 : Va)  (b o cap : Nat) (w : World) (HT : Tb w) (C0 : VaAt w b (o) y0) : Calls Tryz.prog 84 #[.slice (some ⟨b, o, none⟩) 1 cap] w fun e w' => e = .returned (vV y0.k y0.i y0.t) ∧ Below w.heap.size w w' := by
  replace HT := hide HT
  go_enter Tryz.func84, Tryz.ntmps84
  try simp only [List.append]
  have cr : Hid (O3 (w.alloc (vO 0 0 no)) (w.heap.size) (.int .i64 0) (.int .i64 0) (.string no)) := hide (by have h0 := (O3.new w (.int .i64 0) (.int .i64 0) (.string no) 30); exact h0)
  replace C0 := hide (C0.keep ((Below.refl _ _).alloc (Nat.le_refl _) (vO 0 0 no)))
  have d1_00 : ((w.alloc (vO 0 0 no))).cell? ⟨b, o, none⟩ = some (.int .i64 y0.k) := C0.out.1
  have d1_01 : ((w.alloc (vO 0 0 no))).cell? ⟨b, o + 1, none⟩ = some (.int .i64 y0.i) := C0.out.2.1
  have d1_02 : ((w.alloc (vO 0 0 no))).cell? ⟨b, o + 2, none⟩ = some (.string y0.t) := C0.out.2.2
  go_wp2_with fail
  refine bodyPost_ret (by simp [results, Tryz.results84, go_sem]; try rfl) rfl ?_
  exact ⟨rfl, step (Below.refl _ _) _⟩
set_option maxHeartbeats 1000000 in
set_option maxRecDepth 100000 in
theorem do_n (y0 : Va)  (b o cap : Nat) (w : World) (HT : Tb w) (C0 : VaAt w b (o) y0) : Calls Tryz.prog 85 #[.slice (some ⟨b, o, none⟩) 1 cap] w fun e w' => e = .returned (vV 1 y0.i no) ∧ Below w.heap.size w w' := by
  replace HT := hide HT
  go_enter Tryz.func85, Tryz.ntmps85
  try simp only [List.append]
  have cr : Hid (O3 (w.alloc (vO 0 0 no)) (w.heap.size) (.int .i64 0) (.int .i64 0) (.string no)) := hide (by have h0 := (O3.new w (.int .i64 0) (.int .i64 0) (.string no) 30); exact h0)
  replace C0 := hide (C0.keep ((Below.refl _ _).alloc (Nat.le_refl _) (vO 0 0 no)))
  have d1_01 : ((w.alloc (vO 0 0 no))).cell? ⟨b, o + 1, none⟩ = some (.int .i64 y0.i) := C0.out.2.1
  go_wp2_with fail
  refine ((cnumber_is y0.i).out _).mono ?_
  rintro e w1 ⟨rfl, hb1⟩
  clear d1_01
  have B1 := hide (next (step (Below.refl w.heap.size w) (vO 0 0 no)) hb1)
  replace cr := hide (cr.out.keep hb1)
  replace C0 := hide (C0.out.keep hb1)
  have cru30 := cr.out.1.1
  have cru31 := cr.out.1.2.1
  have cru32 := cr.out.1.2.2
  have cru3f := cr.out.2
  have Bq2 := hide (below_put3 (b := w.heap.size) (B1.out) (by omega) (.int .i64 1) (.int .i64 y0.i) (.string no))
  replace cr := hide (cr.out.put (.int .i64 1) (.int .i64 y0.i) (.string no))
  obtain ⟨wq2, hwq2⟩ : ∃ wq2, put3 (w1) (w.heap.size) (.int .i64 1) (.int .i64 y0.i) (.string no) = wq2 := ⟨_, rfl⟩
  rw [hwq2] at Bq2 cr
  unfold put3 at hwq2
  have cru40 := cr.out.1.1
  have cru41 := cr.out.1.2.1
  have cru42 := cr.out.1.2.2
  go_wp2_with fail
  refine bodyPost_ret (by simp [results, Tryz.results85, go_sem, cru40, cru41, cru42]; try rfl) rfl ?_
  exact ⟨rfl, Bq2.out⟩
set_option maxHeartbeats 1000000 in
set_option maxRecDepth 100000 in
theorem do_t (y0 : Va)  (b o cap : Nat) (w : World) (HT : Tb w) (C0 : VaAt w b (o) y0) : Calls Tryz.prog 86 #[.slice (some ⟨b, o, none⟩) 1 cap] w fun e w' => e = .returned (vV 3 0 y0.t) ∧ Below w.heap.size w w' := by
  replace HT := hide HT
  go_enter Tryz.func86, Tryz.ntmps86
  try simp only [List.append]
  have cr : Hid (O3 (w.alloc (vO 0 0 no)) (w.heap.size) (.int .i64 0) (.int .i64 0) (.string no)) := hide (by have h0 := (O3.new w (.int .i64 0) (.int .i64 0) (.string no) 30); exact h0)
  replace C0 := hide (C0.keep ((Below.refl _ _).alloc (Nat.le_refl _) (vO 0 0 no)))
  have d1_02 : ((w.alloc (vO 0 0 no))).cell? ⟨b, o + 2, none⟩ = some (.string y0.t) := C0.out.2.2
  go_wp2_with fail
  refine ((ctext_is y0.t).out _).mono ?_
  rintro e w1 ⟨rfl, hb1⟩
  clear d1_02
  have B1 := hide (next (step (Below.refl w.heap.size w) (vO 0 0 no)) hb1)
  replace cr := hide (cr.out.keep hb1)
  replace C0 := hide (C0.out.keep hb1)
  have cru30 := cr.out.1.1
  have cru31 := cr.out.1.2.1
  have cru32 := cr.out.1.2.2
  have cru3f := cr.out.2
  have Bq2 := hide (below_put3 (b := w.heap.size) (B1.out) (by omega) (.int .i64 3) (.int .i64 0) (.string y0.t))
  replace cr := hide (cr.out.put (.int .i64 3) (.int .i64 0) (.string y0.t))
  obtain ⟨wq2, hwq2⟩ : ∃ wq2, put3 (w1) (w.heap.size) (.int .i64 3) (.int .i64 0) (.string y0.t) = wq2 := ⟨_, rfl⟩
  rw [hwq2] at Bq2 cr
  unfold put3 at hwq2
  have cru40 := cr.out.1.1
  have cru41 := cr.out.1.2.1
  have cru42 := cr.out.1.2.2
  go_wp2_with fail
  refine bodyPost_ret (by simp [results, Tryz.results86, go_sem, cru40, cru41, cru42]; try rfl) rfl ?_
  exact ⟨rfl, Bq2.out⟩
set_option maxHeartbeats 1000000 in
set_option maxRecDepth 100000 in
theorem do_clamp_no (y0 : Va) (y1 : Va) (y2 : Va) (h : y2.i < y1.i) (b o cap : Nat) (w : World) (HT : Tb w) (C0 : VaAt w b (o) y0) (C1 : VaAt w b (o + 3) y1) (C2 : VaAt w b (o + 6) y2) : Calls Tryz.prog 52 #[.slice (some ⟨b, o, none⟩) 3 cap] w fun e w' => e = .returned (vV 4 2 no) ∧ Below w.heap.size w w' := by
  replace HT := hide HT
  go_enter Tryz.func52, Tryz.ntmps52
  try simp only [List.append]
  have cr : Hid (O3 (w.alloc (vO 0 0 no)) (w.heap.size) (.int .i64 0) (.int .i64 0) (.string no)) := hide (by have h0 := (O3.new w (.int .i64 0) (.int .i64 0) (.string no) 30); exact h0)
  replace C0 := hide (C0.keep ((Below.refl _ _).alloc (Nat.le_refl _) (vO 0 0 no)))
  replace C1 := hide (C1.keep ((Below.refl _ _).alloc (Nat.le_refl _) (vO 0 0 no)))
  replace C2 := hide (C2.keep ((Below.refl _ _).alloc (Nat.le_refl _) (vO 0 0 no)))
  have d1_01 : ((w.alloc (vO 0 0 no))).cell? ⟨b, o + 1, none⟩ = some (.int .i64 y0.i) := C0.out.2.1
  replace d1_01 := cell_regrown d1_01
  have d1_11 : ((w.alloc (vO 0 0 no))).cell? ⟨b, o + 4, none⟩ = some (.int .i64 y1.i) := C1.out.2.1
  replace d1_11 := cell_regrown d1_11
  have d1_21 : ((w.alloc (vO 0 0 no))).cell? ⟨b, o + 7, none⟩ = some (.int .i64 y2.i) := C2.out.2.1
  replace d1_21 := cell_regrown d1_21
  go_wp2_with fail
  refine wp_region_quiet_below (by kernel_rfl) (by kernel_rfl) ?_
  repeat (go_big_quiet_step (first | fail))
  refine wpQuiet_nil ?_
  intro w1 hw1
  have hb1 : Below ((w.alloc (vO 0 0 no))).heap.size (w.alloc (vO 0 0 no)) w1 := by obtain ⟨⟨dq, osq⟩, hq⟩ := hw1; rw [hq]; exact below_regrown _ dq osq
  clear hw1 
  have B1 := hide (next (step (Below.refl w.heap.size w) (vO 0 0 no)) hb1)
  replace cr := hide (cr.out.keep hb1)
  replace C0 := hide (C0.out.keep hb1)
  replace C1 := hide (C1.out.keep hb1)
  replace C2 := hide (C2.out.keep hb1)
  clear d1_01 d1_11 d1_21
  go_wp2_with fail
  refine ((cfault_is 2).out _).mono ?_
  rintro e w2 ⟨rfl, hb2⟩
  have B2 := hide (next (B1.out) hb2)
  replace cr := hide (cr.out.keep hb2)
  replace C0 := hide (C0.out.keep hb2)
  replace C1 := hide (C1.out.keep hb2)
  replace C2 := hide (C2.out.keep hb2)
  have cru30 := cr.out.1.1
  have cru31 := cr.out.1.2.1
  have cru32 := cr.out.1.2.2
  have cru3f := cr.out.2
  have Bq2 := hide (below_put3 (b := w.heap.size) (B2.out) (by omega) (.int .i64 4) (.int .i64 2) (.string no))
  replace cr := hide (cr.out.put (.int .i64 4) (.int .i64 2) (.string no))
  obtain ⟨wq2, hwq2⟩ : ∃ wq2, put3 (w2) (w.heap.size) (.int .i64 4) (.int .i64 2) (.string no) = wq2 := ⟨_, rfl⟩
  rw [hwq2] at Bq2 cr
  unfold put3 at hwq2
  have cru40 := cr.out.1.1
  have cru41 := cr.out.1.2.1
  have cru42 := cr.out.1.2.2
  go_wp2_with fail
  refine bodyPost_ret (by simp [results, Tryz.results52, go_sem, cru40, cru41, cru42]; try rfl) rfl ?_
  exact ⟨rfl, Bq2.out⟩
theorem ite_min (x y : Int) : (if y < x then y else x) = min x y := by split <;> omega
theorem ite_max (x y : Int) : (if x < y then y else x) = max x y := by split <;> omega
set_option maxHeartbeats 1000000 in
set_option maxRecDepth 100000 in
theorem do_clamp_yes (y0 : Va) (y1 : Va) (y2 : Va) (h : ¬ y2.i < y1.i) (b o cap : Nat) (w : World) (HT : Tb w) (C0 : VaAt w b (o) y0) (C1 : VaAt w b (o + 3) y1) (C2 : VaAt w b (o + 6) y2) : Calls Tryz.prog 52 #[.slice (some ⟨b, o, none⟩) 3 cap] w fun e w' => e = .returned (vV 1 (max y1.i (min y0.i y2.i)) no) ∧ Below w.heap.size w w' := by
  replace HT := hide HT
  have hmn := ite_min
  have hmx := ite_max
  go_enter Tryz.func52, Tryz.ntmps52
  try simp only [List.append]
  have cr : Hid (O3 (w.alloc (vO 0 0 no)) (w.heap.size) (.int .i64 0) (.int .i64 0) (.string no)) := hide (by have h0 := (O3.new w (.int .i64 0) (.int .i64 0) (.string no) 30); exact h0)
  replace C0 := hide (C0.keep ((Below.refl _ _).alloc (Nat.le_refl _) (vO 0 0 no)))
  replace C1 := hide (C1.keep ((Below.refl _ _).alloc (Nat.le_refl _) (vO 0 0 no)))
  replace C2 := hide (C2.keep ((Below.refl _ _).alloc (Nat.le_refl _) (vO 0 0 no)))
  have d1_01 : ((w.alloc (vO 0 0 no))).cell? ⟨b, o + 1, none⟩ = some (.int .i64 y0.i) := C0.out.2.1
  replace d1_01 := cell_regrown d1_01
  have d1_11 : ((w.alloc (vO 0 0 no))).cell? ⟨b, o + 4, none⟩ = some (.int .i64 y1.i) := C1.out.2.1
  replace d1_11 := cell_regrown d1_11
  have d1_21 : ((w.alloc (vO 0 0 no))).cell? ⟨b, o + 7, none⟩ = some (.int .i64 y2.i) := C2.out.2.1
  replace d1_21 := cell_regrown d1_21
  go_wp2_with fail
  refine wp_region_quiet_below (by kernel_rfl) (by kernel_rfl) ?_
  repeat (go_big_quiet_step (first | fail))
  refine wpQuiet_nil ?_
  intro w1 hw1
  have hb1 : Below ((w.alloc (vO 0 0 no))).heap.size (w.alloc (vO 0 0 no)) w1 := by obtain ⟨⟨dq, osq⟩, hq⟩ := hw1; rw [hq]; exact below_regrown _ dq osq
  clear hw1 
  have B1 := hide (next (step (Below.refl w.heap.size w) (vO 0 0 no)) hb1)
  replace cr := hide (cr.out.keep hb1)
  replace C0 := hide (C0.out.keep hb1)
  replace C1 := hide (C1.out.keep hb1)
  replace C2 := hide (C2.out.keep hb1)
  clear d1_01 d1_11 d1_21
  go_wp2_with fail
  refine ((cnumber_is (max y1.i (min y0.i y2.i))).out _).mono ?_
  rintro e w2 ⟨rfl, hb2⟩
  have B2 := hide (next (B1.out) hb2)
  replace cr := hide (cr.out.keep hb2)
  replace C0 := hide (C0.out.keep hb2)
  replace C1 := hide (C1.out.keep hb2)
  replace C2 := hide (C2.out.keep hb2)
  have cru30 := cr.out.1.1
  have cru31 := cr.out.1.2.1
  have cru32 := cr.out.1.2.2
  have cru3f := cr.out.2
  have Bq2 := hide (below_put3 (b := w.heap.size) (B2.out) (by omega) (.int .i64 1) (.int .i64 (max y1.i (min y0.i y2.i))) (.string no))
  replace cr := hide (cr.out.put (.int .i64 1) (.int .i64 (max y1.i (min y0.i y2.i))) (.string no))
  obtain ⟨wq2, hwq2⟩ : ∃ wq2, put3 (w2) (w.heap.size) (.int .i64 1) (.int .i64 (max y1.i (min y0.i y2.i))) (.string no) = wq2 := ⟨_, rfl⟩
  rw [hwq2] at Bq2 cr
  unfold put3 at hwq2
  have cru40 := cr.out.1.1
  have cru41 := cr.out.1.2.1
  have cru42 := cr.out.1.2.2
  go_wp2_with fail
  refine bodyPost_ret (by simp [results, Tryz.results52, go_sem, cru40, cru41, cru42]; try rfl) rfl ?_
  exact ⟨rfl, Bq2.out⟩
set_option maxHeartbeats 1000000 in
set_option maxRecDepth 100000 in
theorem do_exact (y0 : Va) (y1 : Va) (b0 : Bool) (hb : (y0.t.toList == y1.t.toList) = b0) (k i : Int) (t : ByteArray) (HR : CallIs 29 #[.bool b0] (vV k i t)) (b o cap : Nat) (w : World) (HT : Tb w) (C0 : VaAt w b (o) y0) (C1 : VaAt w b (o + 3) y1) : Calls Tryz.prog 77 #[.slice (some ⟨b, o, none⟩) 2 cap] w fun e w' => e = .returned (vV k i t) ∧ Below w.heap.size w w' := by
  replace HT := hide HT
  go_enter Tryz.func77, Tryz.ntmps77
  try simp only [List.append]
  have cr : Hid (O3 (w.alloc (vO 0 0 no)) (w.heap.size) (.int .i64 0) (.int .i64 0) (.string no)) := hide (by have h0 := (O3.new w (.int .i64 0) (.int .i64 0) (.string no) 30); exact h0)
  replace C0 := hide (C0.keep ((Below.refl _ _).alloc (Nat.le_refl _) (vO 0 0 no)))
  replace C1 := hide (C1.keep ((Below.refl _ _).alloc (Nat.le_refl _) (vO 0 0 no)))
  have d1_02 : ((w.alloc (vO 0 0 no))).cell? ⟨b, o + 2, none⟩ = some (.string y0.t) := C0.out.2.2
  replace d1_02 := cell_regrown d1_02
  have d1_12 : ((w.alloc (vO 0 0 no))).cell? ⟨b, o + 5, none⟩ = some (.string y1.t) := C1.out.2.2
  replace d1_12 := cell_regrown d1_12
  have k10 := fun d' os => Calls.regrown_of (HR.out (grow (redrawn (w.alloc (vO 0 0 no)) d') os))
  go_wp2_with fail
  refine quiet_tail 10 (by kernel_rfl) (by kernel_rfl) ?_
  simp only [List.take_succ_cons, List.take_zero, List.drop_succ_cons, List.drop_zero]
  repeat (go_big_quiet_step (first | (with_reducible exact k10 _ _)))
  refine wpQuiet_nil ?_
  intro w1 hw1
  have hb1 : Below ((w.alloc (vO 0 0 no))).heap.size (w.alloc (vO 0 0 no)) w1 := by obtain ⟨⟨dq, osq⟩, hq⟩ := hw1; rw [hq]; exact below_regrown _ dq osq
  clear hw1 k10
  have B1 := hide (next (step (Below.refl w.heap.size w) (vO 0 0 no)) hb1)
  replace cr := hide (cr.out.keep hb1)
  replace C0 := hide (C0.out.keep hb1)
  replace C1 := hide (C1.out.keep hb1)
  clear d1_02 d1_12
  have cru30 := cr.out.1.1
  have cru31 := cr.out.1.2.1
  have cru32 := cr.out.1.2.2
  have cru3f := cr.out.2
  have Bq2 := hide (below_put3 (b := w.heap.size) (B1.out) (by omega) (.int .i64 k) (.int .i64 i) (.string t))
  replace cr := hide (cr.out.put (.int .i64 k) (.int .i64 i) (.string t))
  obtain ⟨wq2, hwq2⟩ : ∃ wq2, put3 (w1) (w.heap.size) (.int .i64 k) (.int .i64 i) (.string t) = wq2 := ⟨_, rfl⟩
  rw [hwq2] at Bq2 cr
  unfold put3 at hwq2
  have cru40 := cr.out.1.1
  have cru41 := cr.out.1.2.1
  have cru42 := cr.out.1.2.2
  go_wp2_with fail
  refine bodyPost_ret (by simp [results, Tryz.results77, go_sem, cru40, cru41, cru42]; try rfl) rfl ?_
  exact ⟨rfl, Bq2.out⟩
set_option maxHeartbeats 1000000 in
set_option maxRecDepth 100000 in
theorem bit_n1 (y0 : Va) (y1 : Va) (n : Int) (h : y0.i < 0) (b o cap : Nat) (w : World) (HT : Tb w) (C0 : VaAt w b (o) y0) (C1 : VaAt w b (o + 3) y1) : Calls Tryz.prog 48 #[.slice (some ⟨b, o, none⟩) 2 cap, .int .i64 n] w fun e w' => e = .returned (vV 4 2 no) ∧ Below w.heap.size w w' := by
  replace HT := hide HT
  go_enter Tryz.func48, Tryz.ntmps48
  try simp only [List.append]
  have cr : Hid (O3 (w.alloc (vO 0 0 no)) (w.heap.size) (.int .i64 0) (.int .i64 0) (.string no)) := hide (by have h0 := (O3.new w (.int .i64 0) (.int .i64 0) (.string no) 30); exact h0)
  replace C0 := hide (C0.keep ((Below.refl _ _).alloc (Nat.le_refl _) (vO 0 0 no)))
  replace C1 := hide (C1.keep ((Below.refl _ _).alloc (Nat.le_refl _) (vO 0 0 no)))
  have d1_01 : ((w.alloc (vO 0 0 no))).cell? ⟨b, o + 1, none⟩ = some (.int .i64 y0.i) := C0.out.2.1
  have d1_11 : ((w.alloc (vO 0 0 no))).cell? ⟨b, o + 4, none⟩ = some (.int .i64 y1.i) := C1.out.2.1
  go_wp2_with fail
  refine ((cfault_is 2).out _).mono ?_
  rintro e w1 ⟨rfl, hb1⟩
  clear d1_01
  clear d1_11
  have B1 := hide (next (step (Below.refl w.heap.size w) (vO 0 0 no)) hb1)
  replace cr := hide (cr.out.keep hb1)
  replace C0 := hide (C0.out.keep hb1)
  replace C1 := hide (C1.out.keep hb1)
  have cru30 := cr.out.1.1
  have cru31 := cr.out.1.2.1
  have cru32 := cr.out.1.2.2
  have cru3f := cr.out.2
  have Bq2 := hide (below_put3 (b := w.heap.size) (B1.out) (by omega) (.int .i64 4) (.int .i64 2) (.string no))
  replace cr := hide (cr.out.put (.int .i64 4) (.int .i64 2) (.string no))
  obtain ⟨wq2, hwq2⟩ : ∃ wq2, put3 (w1) (w.heap.size) (.int .i64 4) (.int .i64 2) (.string no) = wq2 := ⟨_, rfl⟩
  rw [hwq2] at Bq2 cr
  unfold put3 at hwq2
  have cru40 := cr.out.1.1
  have cru41 := cr.out.1.2.1
  have cru42 := cr.out.1.2.2
  go_wp2_with fail
  refine bodyPost_ret (by simp [results, Tryz.results48, go_sem, cru40, cru41, cru42]; try rfl) rfl ?_
  exact ⟨rfl, Bq2.out⟩
set_option maxHeartbeats 1000000 in
set_option maxRecDepth 100000 in
theorem bit_n2 (y0 : Va) (y1 : Va) (n : Int) (h : ¬ y0.i < 0) (h2 : y1.i < 0) (b o cap : Nat) (w : World) (HT : Tb w) (C0 : VaAt w b (o) y0) (C1 : VaAt w b (o + 3) y1) : Calls Tryz.prog 48 #[.slice (some ⟨b, o, none⟩) 2 cap, .int .i64 n] w fun e w' => e = .returned (vV 4 2 no) ∧ Below w.heap.size w w' := by
  replace HT := hide HT
  go_enter Tryz.func48, Tryz.ntmps48
  try simp only [List.append]
  have cr : Hid (O3 (w.alloc (vO 0 0 no)) (w.heap.size) (.int .i64 0) (.int .i64 0) (.string no)) := hide (by have h0 := (O3.new w (.int .i64 0) (.int .i64 0) (.string no) 30); exact h0)
  replace C0 := hide (C0.keep ((Below.refl _ _).alloc (Nat.le_refl _) (vO 0 0 no)))
  replace C1 := hide (C1.keep ((Below.refl _ _).alloc (Nat.le_refl _) (vO 0 0 no)))
  have d1_01 : ((w.alloc (vO 0 0 no))).cell? ⟨b, o + 1, none⟩ = some (.int .i64 y0.i) := C0.out.2.1
  have d1_11 : ((w.alloc (vO 0 0 no))).cell? ⟨b, o + 4, none⟩ = some (.int .i64 y1.i) := C1.out.2.1
  go_wp2_with fail
  refine ((cfault_is 2).out _).mono ?_
  rintro e w1 ⟨rfl, hb1⟩
  clear d1_01
  clear d1_11
  have B1 := hide (next (step (Below.refl w.heap.size w) (vO 0 0 no)) hb1)
  replace cr := hide (cr.out.keep hb1)
  replace C0 := hide (C0.out.keep hb1)
  replace C1 := hide (C1.out.keep hb1)
  have cru30 := cr.out.1.1
  have cru31 := cr.out.1.2.1
  have cru32 := cr.out.1.2.2
  have cru3f := cr.out.2
  have Bq2 := hide (below_put3 (b := w.heap.size) (B1.out) (by omega) (.int .i64 4) (.int .i64 2) (.string no))
  replace cr := hide (cr.out.put (.int .i64 4) (.int .i64 2) (.string no))
  obtain ⟨wq2, hwq2⟩ : ∃ wq2, put3 (w1) (w.heap.size) (.int .i64 4) (.int .i64 2) (.string no) = wq2 := ⟨_, rfl⟩
  rw [hwq2] at Bq2 cr
  unfold put3 at hwq2
  have cru40 := cr.out.1.1
  have cru41 := cr.out.1.2.1
  have cru42 := cr.out.1.2.2
  go_wp2_with fail
  refine bodyPost_ret (by simp [results, Tryz.results48, go_sem, cru40, cru41, cru42]; try rfl) rfl ?_
  exact ⟨rfl, Bq2.out⟩
set_option maxHeartbeats 1000000 in
set_option maxRecDepth 100000 in
theorem bit_ok (y0 : Va) (y1 : Va) (n : Int) (h : ¬ y0.i < 0) (h2 : ¬ y1.i < 0) (b o cap : Nat) (w : World) (HT : Tb w) (C0 : VaAt w b (o) y0) (C1 : VaAt w b (o + 3) y1) : Calls Tryz.prog 48 #[.slice (some ⟨b, o, none⟩) 2 cap, .int .i64 n] w fun e w' => e = .returned (vV 1 n no) ∧ Below w.heap.size w w' := by
  replace HT := hide HT
  go_enter Tryz.func48, Tryz.ntmps48
  try simp only [List.append]
  have cr : Hid (O3 (w.alloc (vO 0 0 no)) (w.heap.size) (.int .i64 0) (.int .i64 0) (.string no)) := hide (by have h0 := (O3.new w (.int .i64 0) (.int .i64 0) (.string no) 30); exact h0)
  replace C0 := hide (C0.keep ((Below.refl _ _).alloc (Nat.le_refl _) (vO 0 0 no)))
  replace C1 := hide (C1.keep ((Below.refl _ _).alloc (Nat.le_refl _) (vO 0 0 no)))
  have d1_01 : ((w.alloc (vO 0 0 no))).cell? ⟨b, o + 1, none⟩ = some (.int .i64 y0.i) := C0.out.2.1
  have d1_11 : ((w.alloc (vO 0 0 no))).cell? ⟨b, o + 4, none⟩ = some (.int .i64 y1.i) := C1.out.2.1
  go_wp2_with fail
  refine ((cnumber_is n).out _).mono ?_
  rintro e w1 ⟨rfl, hb1⟩
  clear d1_01
  clear d1_11
  have B1 := hide (next (step (Below.refl w.heap.size w) (vO 0 0 no)) hb1)
  replace cr := hide (cr.out.keep hb1)
  replace C0 := hide (C0.out.keep hb1)
  replace C1 := hide (C1.out.keep hb1)
  have cru30 := cr.out.1.1
  have cru31 := cr.out.1.2.1
  have cru32 := cr.out.1.2.2
  have cru3f := cr.out.2
  have Bq2 := hide (below_put3 (b := w.heap.size) (B1.out) (by omega) (.int .i64 1) (.int .i64 n) (.string no))
  replace cr := hide (cr.out.put (.int .i64 1) (.int .i64 n) (.string no))
  obtain ⟨wq2, hwq2⟩ : ∃ wq2, put3 (w1) (w.heap.size) (.int .i64 1) (.int .i64 n) (.string no) = wq2 := ⟨_, rfl⟩
  rw [hwq2] at Bq2 cr
  unfold put3 at hwq2
  have cru40 := cr.out.1.1
  have cru41 := cr.out.1.2.1
  have cru42 := cr.out.1.2.2
  go_wp2_with fail
  refine bodyPost_ret (by simp [results, Tryz.results48, go_sem, cru40, cru41, cru42]; try rfl) rfl ?_
  exact ⟨rfl, Bq2.out⟩
set_option maxHeartbeats 1000000 in
set_option maxRecDepth 100000 in
theorem do_and (y0 : Va) (y1 : Va) (r : Int) (hop : bits .and .i64 y0.i y1.i = r) (k i : Int) (t : ByteArray) (b o cap : Nat) (HB : ∀ w', VaAt w' b o y0 → VaAt w' b (o + 3) y1 → Tb w' → Calls Tryz.prog 48 #[.slice (some ⟨b, o, none⟩) 2 cap, .int .i64 r] w' fun e w'' => e = .returned (vV k i t) ∧ Below w'.heap.size w' w'') (w : World) (HT : Tb w) (C0 : VaAt w b (o) y0) (C1 : VaAt w b (o + 3) y1) : Calls Tryz.prog 47 #[.slice (some ⟨b, o, none⟩) 2 cap] w fun e w' => e = .returned (vV k i t) ∧ Below w.heap.size w w' := by
  replace HT := hide HT
  go_enter Tryz.func47, Tryz.ntmps47
  try simp only [List.append]
  have cr : Hid (O3 (w.alloc (vO 0 0 no)) (w.heap.size) (.int .i64 0) (.int .i64 0) (.string no)) := hide (by have h0 := (O3.new w (.int .i64 0) (.int .i64 0) (.string no) 30); exact h0)
  replace C0 := hide (C0.keep ((Below.refl _ _).alloc (Nat.le_refl _) (vO 0 0 no)))
  replace C1 := hide (C1.keep ((Below.refl _ _).alloc (Nat.le_refl _) (vO 0 0 no)))
  have HB1 := hide (fun w' (h : Below (w.alloc (vO 0 0 no)).heap.size (w.alloc (vO 0 0 no)) w') => HB w' (C0.out.keep h) (C1.out.keep h) ((HT.out.alloc _).keep h))
  have d1_01 : ((w.alloc (vO 0 0 no))).cell? ⟨b, o + 1, none⟩ = some (.int .i64 y0.i) := C0.out.2.1
  replace d1_01 := cell_regrown d1_01
  have d1_11 : ((w.alloc (vO 0 0 no))).cell? ⟨b, o + 4, none⟩ = some (.int .i64 y1.i) := C1.out.2.1
  replace d1_11 := cell_regrown d1_11
  have k1 := fun d' os => Calls.regrown_of (HB1.out (grow (redrawn (w.alloc (vO 0 0 no)) d') os) (below_regrown _ d' os))
  clear HB
  go_wp2_with fail
  refine quiet_tail 11 (by kernel_rfl) (by kernel_rfl) ?_
  simp only [List.take_succ_cons, List.take_zero, List.drop_succ_cons, List.drop_zero]
  repeat (go_big_quiet_step (first | (with_reducible exact k1 _ _)))
  refine wpQuiet_nil ?_
  intro w1 hw1
  have hb1 : Below ((w.alloc (vO 0 0 no))).heap.size (w.alloc (vO 0 0 no)) w1 := by obtain ⟨⟨dq, osq⟩, hq⟩ := hw1; rw [hq]; exact below_regrown _ dq osq
  clear hw1 k1 HB1
  have B1 := hide (next (step (Below.refl w.heap.size w) (vO 0 0 no)) hb1)
  replace cr := hide (cr.out.keep hb1)
  replace C0 := hide (C0.out.keep hb1)
  replace C1 := hide (C1.out.keep hb1)
  clear d1_01 d1_11
  have cru30 := cr.out.1.1
  have cru31 := cr.out.1.2.1
  have cru32 := cr.out.1.2.2
  have cru3f := cr.out.2
  have Bq2 := hide (below_put3 (b := w.heap.size) (B1.out) (by omega) (.int .i64 k) (.int .i64 i) (.string t))
  replace cr := hide (cr.out.put (.int .i64 k) (.int .i64 i) (.string t))
  obtain ⟨wq2, hwq2⟩ : ∃ wq2, put3 (w1) (w.heap.size) (.int .i64 k) (.int .i64 i) (.string t) = wq2 := ⟨_, rfl⟩
  rw [hwq2] at Bq2 cr
  unfold put3 at hwq2
  have cru40 := cr.out.1.1
  have cru41 := cr.out.1.2.1
  have cru42 := cr.out.1.2.2
  go_wp2_with fail
  refine bodyPost_ret (by simp [results, Tryz.results47, go_sem, cru40, cru41, cru42]; try rfl) rfl ?_
  exact ⟨rfl, Bq2.out⟩
set_option maxHeartbeats 1000000 in
set_option maxRecDepth 100000 in
theorem do_or (y0 : Va) (y1 : Va) (r : Int) (hop : bits .or .i64 y0.i y1.i = r) (k i : Int) (t : ByteArray) (b o cap : Nat) (HB : ∀ w', VaAt w' b o y0 → VaAt w' b (o + 3) y1 → Tb w' → Calls Tryz.prog 48 #[.slice (some ⟨b, o, none⟩) 2 cap, .int .i64 r] w' fun e w'' => e = .returned (vV k i t) ∧ Below w'.heap.size w' w'') (w : World) (HT : Tb w) (C0 : VaAt w b (o) y0) (C1 : VaAt w b (o + 3) y1) : Calls Tryz.prog 49 #[.slice (some ⟨b, o, none⟩) 2 cap] w fun e w' => e = .returned (vV k i t) ∧ Below w.heap.size w w' := by
  replace HT := hide HT
  go_enter Tryz.func49, Tryz.ntmps49
  try simp only [List.append]
  have cr : Hid (O3 (w.alloc (vO 0 0 no)) (w.heap.size) (.int .i64 0) (.int .i64 0) (.string no)) := hide (by have h0 := (O3.new w (.int .i64 0) (.int .i64 0) (.string no) 30); exact h0)
  replace C0 := hide (C0.keep ((Below.refl _ _).alloc (Nat.le_refl _) (vO 0 0 no)))
  replace C1 := hide (C1.keep ((Below.refl _ _).alloc (Nat.le_refl _) (vO 0 0 no)))
  have HB1 := hide (fun w' (h : Below (w.alloc (vO 0 0 no)).heap.size (w.alloc (vO 0 0 no)) w') => HB w' (C0.out.keep h) (C1.out.keep h) ((HT.out.alloc _).keep h))
  have d1_01 : ((w.alloc (vO 0 0 no))).cell? ⟨b, o + 1, none⟩ = some (.int .i64 y0.i) := C0.out.2.1
  replace d1_01 := cell_regrown d1_01
  have d1_11 : ((w.alloc (vO 0 0 no))).cell? ⟨b, o + 4, none⟩ = some (.int .i64 y1.i) := C1.out.2.1
  replace d1_11 := cell_regrown d1_11
  have k1 := fun d' os => Calls.regrown_of (HB1.out (grow (redrawn (w.alloc (vO 0 0 no)) d') os) (below_regrown _ d' os))
  clear HB
  go_wp2_with fail
  refine quiet_tail 11 (by kernel_rfl) (by kernel_rfl) ?_
  simp only [List.take_succ_cons, List.take_zero, List.drop_succ_cons, List.drop_zero]
  repeat (go_big_quiet_step (first | (with_reducible exact k1 _ _)))
  refine wpQuiet_nil ?_
  intro w1 hw1
  have hb1 : Below ((w.alloc (vO 0 0 no))).heap.size (w.alloc (vO 0 0 no)) w1 := by obtain ⟨⟨dq, osq⟩, hq⟩ := hw1; rw [hq]; exact below_regrown _ dq osq
  clear hw1 k1 HB1
  have B1 := hide (next (step (Below.refl w.heap.size w) (vO 0 0 no)) hb1)
  replace cr := hide (cr.out.keep hb1)
  replace C0 := hide (C0.out.keep hb1)
  replace C1 := hide (C1.out.keep hb1)
  clear d1_01 d1_11
  have cru30 := cr.out.1.1
  have cru31 := cr.out.1.2.1
  have cru32 := cr.out.1.2.2
  have cru3f := cr.out.2
  have Bq2 := hide (below_put3 (b := w.heap.size) (B1.out) (by omega) (.int .i64 k) (.int .i64 i) (.string t))
  replace cr := hide (cr.out.put (.int .i64 k) (.int .i64 i) (.string t))
  obtain ⟨wq2, hwq2⟩ : ∃ wq2, put3 (w1) (w.heap.size) (.int .i64 k) (.int .i64 i) (.string t) = wq2 := ⟨_, rfl⟩
  rw [hwq2] at Bq2 cr
  unfold put3 at hwq2
  have cru40 := cr.out.1.1
  have cru41 := cr.out.1.2.1
  have cru42 := cr.out.1.2.2
  go_wp2_with fail
  refine bodyPost_ret (by simp [results, Tryz.results49, go_sem, cru40, cru41, cru42]; try rfl) rfl ?_
  exact ⟨rfl, Bq2.out⟩
set_option maxHeartbeats 1000000 in
set_option maxRecDepth 100000 in
theorem do_xor (y0 : Va) (y1 : Va) (r : Int) (hop : bits .xor .i64 y0.i y1.i = r) (k i : Int) (t : ByteArray) (b o cap : Nat) (HB : ∀ w', VaAt w' b o y0 → VaAt w' b (o + 3) y1 → Tb w' → Calls Tryz.prog 48 #[.slice (some ⟨b, o, none⟩) 2 cap, .int .i64 r] w' fun e w'' => e = .returned (vV k i t) ∧ Below w'.heap.size w' w'') (w : World) (HT : Tb w) (C0 : VaAt w b (o) y0) (C1 : VaAt w b (o + 3) y1) : Calls Tryz.prog 50 #[.slice (some ⟨b, o, none⟩) 2 cap] w fun e w' => e = .returned (vV k i t) ∧ Below w.heap.size w w' := by
  replace HT := hide HT
  go_enter Tryz.func50, Tryz.ntmps50
  try simp only [List.append]
  have cr : Hid (O3 (w.alloc (vO 0 0 no)) (w.heap.size) (.int .i64 0) (.int .i64 0) (.string no)) := hide (by have h0 := (O3.new w (.int .i64 0) (.int .i64 0) (.string no) 30); exact h0)
  replace C0 := hide (C0.keep ((Below.refl _ _).alloc (Nat.le_refl _) (vO 0 0 no)))
  replace C1 := hide (C1.keep ((Below.refl _ _).alloc (Nat.le_refl _) (vO 0 0 no)))
  have HB1 := hide (fun w' (h : Below (w.alloc (vO 0 0 no)).heap.size (w.alloc (vO 0 0 no)) w') => HB w' (C0.out.keep h) (C1.out.keep h) ((HT.out.alloc _).keep h))
  have d1_01 : ((w.alloc (vO 0 0 no))).cell? ⟨b, o + 1, none⟩ = some (.int .i64 y0.i) := C0.out.2.1
  replace d1_01 := cell_regrown d1_01
  have d1_11 : ((w.alloc (vO 0 0 no))).cell? ⟨b, o + 4, none⟩ = some (.int .i64 y1.i) := C1.out.2.1
  replace d1_11 := cell_regrown d1_11
  have k1 := fun d' os => Calls.regrown_of (HB1.out (grow (redrawn (w.alloc (vO 0 0 no)) d') os) (below_regrown _ d' os))
  clear HB
  go_wp2_with fail
  refine quiet_tail 11 (by kernel_rfl) (by kernel_rfl) ?_
  simp only [List.take_succ_cons, List.take_zero, List.drop_succ_cons, List.drop_zero]
  repeat (go_big_quiet_step (first | (with_reducible exact k1 _ _)))
  refine wpQuiet_nil ?_
  intro w1 hw1
  have hb1 : Below ((w.alloc (vO 0 0 no))).heap.size (w.alloc (vO 0 0 no)) w1 := by obtain ⟨⟨dq, osq⟩, hq⟩ := hw1; rw [hq]; exact below_regrown _ dq osq
  clear hw1 k1 HB1
  have B1 := hide (next (step (Below.refl w.heap.size w) (vO 0 0 no)) hb1)
  replace cr := hide (cr.out.keep hb1)
  replace C0 := hide (C0.out.keep hb1)
  replace C1 := hide (C1.out.keep hb1)
  clear d1_01 d1_11
  have cru30 := cr.out.1.1
  have cru31 := cr.out.1.2.1
  have cru32 := cr.out.1.2.2
  have cru3f := cr.out.2
  have Bq2 := hide (below_put3 (b := w.heap.size) (B1.out) (by omega) (.int .i64 k) (.int .i64 i) (.string t))
  replace cr := hide (cr.out.put (.int .i64 k) (.int .i64 i) (.string t))
  obtain ⟨wq2, hwq2⟩ : ∃ wq2, put3 (w1) (w.heap.size) (.int .i64 k) (.int .i64 i) (.string t) = wq2 := ⟨_, rfl⟩
  rw [hwq2] at Bq2 cr
  unfold put3 at hwq2
  have cru40 := cr.out.1.1
  have cru41 := cr.out.1.2.1
  have cru42 := cr.out.1.2.2
  go_wp2_with fail
  refine bodyPost_ret (by simp [results, Tryz.results50, go_sem, cru40, cru41, cru42]; try rfl) rfl ?_
  exact ⟨rfl, Bq2.out⟩
set_option maxHeartbeats 1000000 in
set_option maxRecDepth 100000 in
theorem do_isna (y0 : Va) (b0 : Bool) (heq : ∀ w, (binOp .eql 30 y0.v (vV 4 6 no)).run Tryz.prog w = .ok (.bool b0) w) (k i : Int) (t : ByteArray) (HR : CallIs 29 #[.bool b0] (vV k i t)) (b o cap : Nat) (w : World) (HT : Tb w) (C0 : VaAt w b (o) y0) : Calls Tryz.prog 93 #[.slice (some ⟨b, o, none⟩) 1 cap] w fun e w' => e = .returned (vV k i t) ∧ Below w.heap.size w w' := by
  replace HT := hide HT
  go_enter Tryz.func93, Tryz.ntmps93
  try simp only [List.append]
  have cr : Hid (O3 (w.alloc (vO 0 0 no)) (w.heap.size) (.int .i64 0) (.int .i64 0) (.string no)) := hide (by have h0 := (O3.new w (.int .i64 0) (.int .i64 0) (.string no) 30); exact h0)
  replace C0 := hide (C0.keep ((Below.refl _ _).alloc (Nat.le_refl _) (vO 0 0 no)))
  have d1_00 : ((w.alloc (vO 0 0 no))).cell? ⟨b, o, none⟩ = some (.int .i64 y0.k) := C0.out.1
  replace d1_00 := cell_regrown d1_00
  have d1_01 : ((w.alloc (vO 0 0 no))).cell? ⟨b, o + 1, none⟩ = some (.int .i64 y0.i) := C0.out.2.1
  replace d1_01 := cell_regrown d1_01
  have d1_02 : ((w.alloc (vO 0 0 no))).cell? ⟨b, o + 2, none⟩ = some (.string y0.t) := C0.out.2.2
  replace d1_02 := cell_regrown d1_02
  have k10 := fun d' os => Calls.regrown_of ((cfault_is 6).out (grow (redrawn (w.alloc (vO 0 0 no)) d') os))
  have k11 := fun d' os => Calls.regrown_of (HR.out (grow (redrawn (w.alloc (vO 0 0 no)) d') os))
  go_wp2_with fail
  refine quiet_tail 6 (by kernel_rfl) (by kernel_rfl) ?_
  simp only [List.take_succ_cons, List.take_zero, List.drop_succ_cons, List.drop_zero]
  repeat (go_big_quiet_step (first | (with_reducible exact k10 _ _) | (with_reducible exact k11 _ _)))
  refine wpQuiet_nil ?_
  intro w1 hw1
  have hb1 : Below ((w.alloc (vO 0 0 no))).heap.size (w.alloc (vO 0 0 no)) w1 := by obtain ⟨⟨dq, osq⟩, hq⟩ := hw1; rw [hq]; exact below_regrown _ dq osq
  clear hw1 k10 k11
  have B1 := hide (next (step (Below.refl w.heap.size w) (vO 0 0 no)) hb1)
  replace cr := hide (cr.out.keep hb1)
  replace C0 := hide (C0.out.keep hb1)
  clear d1_00 d1_01 d1_02
  have cru30 := cr.out.1.1
  have cru31 := cr.out.1.2.1
  have cru32 := cr.out.1.2.2
  have cru3f := cr.out.2
  have Bq2 := hide (below_put3 (b := w.heap.size) (B1.out) (by omega) (.int .i64 k) (.int .i64 i) (.string t))
  replace cr := hide (cr.out.put (.int .i64 k) (.int .i64 i) (.string t))
  obtain ⟨wq2, hwq2⟩ : ∃ wq2, put3 (w1) (w.heap.size) (.int .i64 k) (.int .i64 i) (.string t) = wq2 := ⟨_, rfl⟩
  rw [hwq2] at Bq2 cr
  unfold put3 at hwq2
  have cru40 := cr.out.1.1
  have cru41 := cr.out.1.2.1
  have cru42 := cr.out.1.2.2
  go_wp2_with fail
  refine bodyPost_ret (by simp [results, Tryz.results93, go_sem, cru40, cru41, cru42]; try rfl) rfl ?_
  exact ⟨rfl, Bq2.out⟩
set_option maxHeartbeats 1000000 in
theorem do_na (a : Option Addr) (cap : Nat) (w : World) : Calls Tryz.prog 87 #[.slice a 0 cap] w fun e w' => e = .returned (vV 4 6 no) ∧ Below w.heap.size w w' := by
  go_enter Tryz.func87, Tryz.ntmps87
  try simp only [List.append]
  go_wp2_with fail
  refine ((cfault_is 6).out _).mono ?_
  rintro e w1 ⟨rfl, hb1⟩
  have B1 := hide (next (step (Below.refl w.heap.size w) _) hb1)
  have cr := hide ((O3.new w (.int .i64 0) (.int .i64 0) (.string no) 30).keep hb1)
  have cru20 := cr.out.1.1
  have cru21 := cr.out.1.2.1
  have cru22 := cr.out.1.2.2
  have cru2f := cr.out.2
  have Bq1 := hide (below_put3 (b := w.heap.size) (B1.out) (by omega) (.int .i64 4) (.int .i64 6) (.string no))
  replace cr := hide (cr.out.put (.int .i64 4) (.int .i64 6) (.string no))
  obtain ⟨wq1, hwq1⟩ : ∃ wq1, put3 (w1) (w.heap.size) (.int .i64 4) (.int .i64 6) (.string no) = wq1 := ⟨_, rfl⟩
  rw [hwq1] at Bq1 cr
  unfold put3 at hwq1
  have cru30 := cr.out.1.1
  have cru31 := cr.out.1.2.1
  have cru32 := cr.out.1.2.2
  go_wp2_with fail
  refine bodyPost_ret (by simp [results, Tryz.results87, go_sem, cru30, cru31, cru32]; try rfl) rfl ?_
  exact ⟨rfl, Bq1.out⟩
end Go.Proofs.YtgnmkhjilecdhaaGreatDoor
namespace Go.Proofs.YtgnmkhjilecdhaaGreatDoor
open Go.RowKit Go.Sort
set_option linter.unusedVariables false

/-- A value that may be, of 64 bits. -/
def Wh (x : Va) : Prop := Good x.k x.i x.t ∧ -9223372036854775808 ≤ x.i ∧ x.i ≤ 9223372036854775807
theorem read_ex (s : ByteArray) (hs : s.size ≤ 32767) : ∃ n e : Int, CallIs 96 #[.string s] (.tuple #[.int .i64 n, .int .i64 e]) ∧ (e = 0 → -9223372036854775808 ≤ n ∧ n ≤ 9223372036854775807) := by
  have hm : s.size ≤ maxLen := by unfold maxLen; omega
  cases h : formB s with
  | false => exact ⟨0, _, fun w => (read_bad s w hm h).mono fun e w' ⟨h1, h2⟩ => ⟨h1, by subst h2; exact Below.refl _ _⟩, fun h => by cases h⟩
  | true =>
    have hp := form_size s h
    cases h1 : ((s[0].toNat : Int) == 45) with
    | true =>
      by_cases hv : val (s.extract 1 s.size).data.toList ≤ 9223372036854775808
      · exact ⟨_, _, fun w => (read_neg s _ w hm h hp rfl h1 hv).mono fun e w' ⟨g1, g2⟩ => ⟨g1, by subst g2; exact Below.refl _ _⟩, fun _ => by omega⟩
      · exact ⟨_, _, fun w => (read_negover s _ w hm h hp rfl h1 (by omega)).mono fun e w' ⟨g1, g2⟩ => ⟨g1, by subst g2; exact Below.refl _ _⟩, fun h => by cases h⟩
    | false =>
      by_cases hv : val s.data.toList ≤ 9223372036854775807
      · exact ⟨_, _, fun w => (read_pos s w hm h hp h1 hv).mono fun e w' ⟨g1, g2⟩ => ⟨g1, by subst g2; exact Below.refl _ _⟩, fun _ => by omega⟩
      · exact ⟨_, _, fun w => (read_posover s w hm h hp h1 (by omega)).mono fun e w' ⟨g1, g2⟩ => ⟨g1, by subst g2; exact Below.refl _ _⟩, fun h => by cases h⟩
theorem wh_int {n : Int} (h : -9223372036854775808 ≤ n ∧ n ≤ 9223372036854775807) : Wh ⟨1, n, no⟩ := ⟨good_int n, h⟩
theorem wh_err {e : Int} (h : 1 ≤ e ∧ e ≤ 6) : Wh ⟨4, e, no⟩ := ⟨good_err h, by show -9223372036854775808 ≤ e ∧ e ≤ 9223372036854775807; omega⟩
theorem wh_text {s : ByteArray} (h : s.size ≤ 32767) : Wh ⟨3, 0, s⟩ := ⟨good_text h, by show (-9223372036854775808 : Int) ≤ 0 ∧ (0 : Int) ≤ 9223372036854775807; decide⟩
theorem wh_bool {b : Int} (h : b = 0 ∨ b = 1) : Wh ⟨2, b, no⟩ := ⟨.inr (.inr (.inl ⟨rfl, h, rfl⟩)), by show -9223372036854775808 ≤ b ∧ b ≤ 9223372036854775807; omega⟩
/-- As a number. -/
theorem asn_ex (x : Va) (hx : Wh x) : ∃ y, AsIs 110 x y ∧ Wh y ∧ ((∃ e, y = ⟨4, e, no⟩) ∨ ∃ n, y = ⟨1, n, no⟩) := by
  obtain ⟨k, i, t⟩ := x
  obtain ⟨hg, h1, h2⟩ := hx
  simp only at hg h1 h2
  have hs := sound_good hg
  rcases hg with ⟨rfl, rfl, rfl⟩ | ⟨rfl, rfl⟩ | ⟨rfl, hb, rfl⟩ | ⟨rfl, rfl, ht⟩ | ⟨rfl, he, rfl⟩
  · exact ⟨⟨1, 0, no⟩, (as_n 0 0 no 0 (vnum_plain 0 0 no rfl rfl hs)).t, wh_int (by decide), .inr ⟨0, rfl⟩⟩
  · exact ⟨⟨1, i, no⟩, (as_n 1 i no i (vnum_plain 1 i no rfl rfl hs)).t, wh_int ⟨h1, h2⟩, .inr ⟨i, rfl⟩⟩
  · exact ⟨⟨1, i, no⟩, (as_n 2 i no i (vnum_plain 2 i no rfl rfl hs)).t, wh_int ⟨h1, h2⟩, .inr ⟨i, rfl⟩⟩
  · obtain ⟨n, e, hr, hb⟩ := read_ex t ht
    by_cases he : e = 0
    · subst he
      exact ⟨⟨1, n, no⟩, (as_n 3 0 t n (vnum_text t n hs hr)).t, wh_int (hb rfl), .inr ⟨n, rfl⟩⟩
    · exact ⟨⟨4, 4, no⟩, (as_n_bad 3 0 t 0 4 rfl (vnum_bad t n e (by simp [he]) hs hr)).t, wh_err (by decide), .inl ⟨4, rfl⟩⟩
  · exact ⟨⟨4, i, no⟩, (as_n_bad 4 i no 0 i (by simp; omega) (vnum_err i hs)).t, wh_err he, .inl ⟨i, rfl⟩⟩
/-- As a text. -/
theorem ast_ex (x : Va) (hx : Wh x) : ∃ y, AsIs 116 x y ∧ Wh y ∧ ((∃ e, y = ⟨4, e, no⟩) ∨ ∃ s, y = ⟨3, 0, s⟩) := by
  obtain ⟨k, i, t⟩ := x
  obtain ⟨hg, h1, h2⟩ := hx
  simp only at hg h1 h2
  have hs := sound_good hg
  rcases hg with ⟨rfl, rfl, rfl⟩ | ⟨rfl, rfl⟩ | ⟨rfl, hb, rfl⟩ | ⟨rfl, rfl, ht⟩ | ⟨rfl, he, rfl⟩
  · exact ⟨⟨3, 0, no⟩, as_t 0 0 no no (vtxt_plain 0 0 no rfl rfl rfl hs).t, wh_text (by decide), .inr ⟨no, rfl⟩⟩
  · exact ⟨⟨3, 0, numeral i⟩, as_t 1 i no _ (vtxt_int i _ hs (text_is i h1 h2)), wh_text (by have := (numeral_len i h1 h2).2; omega), .inr ⟨_, rfl⟩⟩
  · rcases hb with rfl | rfl
    · exact ⟨⟨3, 0, tF⟩, as_t 2 0 no _ (vtxt_no hs).t, wh_text (by decide), .inr ⟨_, rfl⟩⟩
    · exact ⟨⟨3, 0, tT⟩, as_t 2 1 no _ (vtxt_yes hs).t, wh_text (by decide), .inr ⟨_, rfl⟩⟩
  · exact ⟨⟨3, 0, t⟩, as_t 3 0 t t (vtxt_plain 3 0 t rfl rfl rfl hs).t, wh_text ht, .inr ⟨t, rfl⟩⟩
  · exact ⟨⟨4, i, no⟩, as_t_bad 4 i no no i (by simp; omega) (vtxt_err i hs).t, wh_err he, .inl ⟨i, rfl⟩⟩
theorem tT_list : tT.toList = [84, 82, 85, 69] := by rw [ByteArray.toList_eq]
theorem tF_list : tF.toList = [70, 65, 76, 83, 69] := by rw [ByteArray.toList_eq]
theorem tl_ne15 {t t' : ByteArray} (h : ¬ t = t') : (t.toList == t'.toList) = false := by
  rw [beq_eq_false_iff_ne, ByteArray.toList_eq, ByteArray.toList_eq]
  intro e
  exact h (ByteArray.ext (Array.ext' e))
/-- As a truth. -/
theorem asb_ex (x : Va) (hx : Wh x) : ∃ y, AsIs 98 x y ∧ Wh y ∧ ((∃ e, y = ⟨4, e, no⟩) ∨ ∃ b, y = ⟨2, b, no⟩ ∧ (b = 0 ∨ b = 1)) := by
  obtain ⟨k, i, t⟩ := x
  obtain ⟨hg, h1, h2⟩ := hx
  simp only at hg h1 h2
  have hs := sound_good hg
  have num : ∀ k : Int, (k == 3) = false → (k == 4) = false → CallIs 95 #[vV k i no] (vV k i no) → ∃ y, AsIs 98 ⟨k, i, no⟩ y ∧ Wh y ∧ ((∃ e, y = ⟨4, e, no⟩) ∨ ∃ b, y = ⟨2, b, no⟩ ∧ (b = 0 ∨ b = 1)) := fun k q3 q4 hs => by
    cases hi : (i != 0) with
    | true => exact ⟨⟨2, 1, no⟩, (as_b_yes k i no (vtru_true k i no q3 q4 hi hs)).t, wh_bool (.inr rfl), .inr ⟨1, rfl, .inr rfl⟩⟩
    | false => exact ⟨⟨2, 0, no⟩, (as_b_no k i no (vtru_false k i no q3 q4 hi hs)).t, wh_bool (.inl rfl), .inr ⟨0, rfl, .inl rfl⟩⟩
  rcases hg with ⟨rfl, rfl, rfl⟩ | ⟨rfl, rfl⟩ | ⟨rfl, hb, rfl⟩ | ⟨rfl, rfl, ht⟩ | ⟨rfl, he, rfl⟩
  · exact num 0 rfl rfl hs
  · exact num 1 rfl rfl hs
  · exact num 2 rfl rfl hs
  · by_cases hT : t = tT
    · subst hT; exact ⟨⟨2, 1, no⟩, (as_b_yes 3 0 tT (vtru_T hs)).t, wh_bool (.inr rfl), .inr ⟨1, rfl, .inr rfl⟩⟩
    · by_cases hF : t = tF
      · subst hF; exact ⟨⟨2, 0, no⟩, (as_b_no 3 0 tF (vtru_F hs)).t, wh_bool (.inl rfl), .inr ⟨0, rfl, .inl rfl⟩⟩
      · exact ⟨⟨4, 4, no⟩, (as_b_bad_no 3 0 t 4 rfl (vtru_bad t (tT_list ▸ tl_ne15 hT) (tF_list ▸ tl_ne15 hF) hs)).t, wh_err (by decide), .inl ⟨4, rfl⟩⟩
  · exact ⟨⟨4, i, no⟩, (as_b_bad_no 4 i no i (by simp; omega) (vtru_err i hs)).t, wh_err he, .inl ⟨i, rfl⟩⟩
theorem asv_ex (x : Va) : AsIs 118 x x := (as_v x.k x.i x.t).t
end Go.Proofs.YtgnmkhjilecdhaaGreatDoor
