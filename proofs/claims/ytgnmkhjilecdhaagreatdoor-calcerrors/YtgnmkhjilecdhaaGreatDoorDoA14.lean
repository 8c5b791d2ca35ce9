/- What the rows that reckon do. Proved of the Go text. -/
import Derived.Test.YtgnmkhjilecdhaaGreatDoorCall14
import Derived.Test.YtgnmkhjilecdhaaGreatDoorBin14
import Derived.Test.YtgnmkhjilecdhaaGreatDoorGcd
namespace Go.Proofs.YtgnmkhjilecdhaaGreatDoor
open Go.RowKit Go.Sort
set_option linter.unusedVariables false

set_option maxHeartbeats 1000000 in
set_option maxRecDepth 100000 in
theorem do_mod (y0 : Va) (y1 : Va) (r e : Int) (k i : Int) (t : ByteArray) (HO : CallIs 36 #[.int .i64 y0.i, .int .i64 y1.i] (.tuple #[.int .i64 r, .int .i64 e])) (HR : CallIs 22 #[.int .i64 r, .int .i64 e] (vV k i t)) (b o cap : Nat) (w : World) (HT : Tb w) (C0 : VaAt w b (o) y0) (C1 : VaAt w b (o + 3) y1) : Calls Tryz.prog 35 #[.slice (some ⟨b, o, none⟩) 2 cap] w fun e w' => e = .returned (vV k i t) ∧ Below w.heap.size w w' := by
  replace HT := hide HT
  go_enter Tryz.func35, Tryz.ntmps35
  try simp only [List.append]
  have cr : Hid (O3 (w.alloc (vO 0 0 no)) (w.heap.size) (.int .i64 0) (.int .i64 0) (.string no)) := hide (by have h0 := (O3.new w (.int .i64 0) (.int .i64 0) (.string no) 30); exact h0)
  replace C0 := hide (C0.keep ((Below.refl _ _).alloc (Nat.le_refl _) (vO 0 0 no)))
  replace C1 := hide (C1.keep ((Below.refl _ _).alloc (Nat.le_refl _) (vO 0 0 no)))
  have d1_01 : ((w.alloc (vO 0 0 no))).cell? ⟨b, o + 1, none⟩ = some (.int .i64 y0.i) := C0.out.2.1
  replace d1_01 := cell_regrown d1_01
  have d1_11 : ((w.alloc (vO 0 0 no))).cell? ⟨b, o + 4, none⟩ = some (.int .i64 y1.i) := C1.out.2.1
  replace d1_11 := cell_regrown d1_11
  have k10 := fun d' os => Calls.regrown_of (HO.out (grow (redrawn (w.alloc (vO 0 0 no)) d') os))
  have k11 := fun d' os => Calls.regrown_of (HR.out (grow (redrawn (w.alloc (vO 0 0 no)) d') os))
  go_wp2_with fail
  refine quiet_tail 12 (by kernel_rfl) (by kernel_rfl) ?_
  simp only [List.take_succ_cons, List.take_zero, List.drop_succ_cons, List.drop_zero]
  repeat (go_big_quiet_step (first | (with_reducible exact k10 _ _) | (with_reducible exact k11 _ _)))
  refine wpQuiet_nil ?_
  intro w1 hw1
  have hb1 : Below ((w.alloc (vO 0 0 no))).heap.size (w.alloc (vO 0 0 no)) w1 := by obtain ⟨⟨dq, osq⟩, hq⟩ := hw1; rw [hq]; exact below_regrown _ dq osq
  clear hw1  k10 k11
  have B1 := hide (next (step (Below.refl w.heap.size w) (vO 0 0 no)) hb1)
  replace cr := hide (cr.out.keep hb1)
  replace C0 := hide (C0.out.keep hb1)
  replace C1 := hide (C1.out.keep hb1)
  clear d1_01 d1_11
  have cru30 := cr.out.1.1
  have cru31 := cr.out.1.2.1
  have cru32 := cr.out.1.2.2
  have cru3f := cr.out.2
  have Bq2 := hide (below_put3 (b := w.heap.size) (B1.out) (by omega) (.int .i64 k) (.int .i64 i) (.string t))
  replace cr := hide (cr.out.put (.int .i64 k) (.int .i64 i) (.string t))
  obtain ⟨wq2, hwq2⟩ : ∃ wq2, put3 (w1) (w.heap.size) (.int .i64 k) (.int .i64 i) (.string t) = wq2 := ⟨_, rfl⟩
  rw [hwq2] at Bq2 cr
  unfold put3 at hwq2
  have cru40 := cr.out.1.1
  have cru41 := cr.out.1.2.1
  have cru42 := cr.out.1.2.2
  go_wp2_with fail
  refine bodyPost_ret (by simp [results, Tryz.results35, go_sem, cru40, cru41, cru42]; try rfl) rfl ?_
  exact ⟨rfl, Bq2.out⟩
set_option maxHeartbeats 1000000 in
set_option maxRecDepth 100000 in
theorem do_quo (y0 : Va) (y1 : Va) (r e : Int) (k i : Int) (t : ByteArray) (HO : CallIs 23 #[.int .i64 y0.i, .int .i64 y1.i] (.tuple #[.int .i64 r, .int .i64 e])) (HR : CallIs 22 #[.int .i64 r, .int .i64 e] (vV k i t)) (b o cap : Nat) (w : World) (HT : Tb w) (C0 : VaAt w b (o) y0) (C1 : VaAt w b (o + 3) y1) : Calls Tryz.prog 37 #[.slice (some ⟨b, o, none⟩) 2 cap] w fun e w' => e = .returned (vV k i t) ∧ Below w.heap.size w w' := by
  replace HT := hide HT
  go_enter Tryz.func37, Tryz.ntmps37
  try simp only [List.append]
  have cr : Hid (O3 (w.alloc (vO 0 0 no)) (w.heap.size) (.int .i64 0) (.int .i64 0) (.string no)) := hide (by have h0 := (O3.new w (.int .i64 0) (.int .i64 0) (.string no) 30); exact h0)
  replace C0 := hide (C0.keep ((Below.refl _ _).alloc (Nat.le_refl _) (vO 0 0 no)))
  replace C1 := hide (C1.keep ((Below.refl _ _).alloc (Nat.le_refl _) (vO 0 0 no)))
  have d1_01 : ((w.alloc (vO 0 0 no))).cell? ⟨b, o + 1, none⟩ = some (.int .i64 y0.i) := C0.out.2.1
  replace d1_01 := cell_regrown d1_01
  have d1_11 : ((w.alloc (vO 0 0 no))).cell? ⟨b, o + 4, none⟩ = some (.int .i64 y1.i) := C1.out.2.1
  replace d1_11 := cell_regrown d1_11
  have k10 := fun d' os => Calls.regrown_of (HO.out (grow (redrawn (w.alloc (vO 0 0 no)) d') os))
  have k11 := fun d' os => Calls.regrown_of (HR.out (grow (redrawn (w.alloc (vO 0 0 no)) d') os))
  go_wp2_with fail
  refine quiet_tail 12 (by kernel_rfl) (by kernel_rfl) ?_
  simp only [List.take_succ_cons, List.take_zero, List.drop_succ_cons, List.drop_zero]
  repeat (go_big_quiet_step (first | (with_reducible exact k10 _ _) | (with_reducible exact k11 _ _)))
  refine wpQuiet_nil ?_
  intro w1 hw1
  have hb1 : Below ((w.alloc (vO 0 0 no))).heap.size (w.alloc (vO 0 0 no)) w1 := by obtain ⟨⟨dq, osq⟩, hq⟩ := hw1; rw [hq]; exact below_regrown _ dq osq
  clear hw1  k10 k11
  have B1 := hide (next (step (Below.refl w.heap.size w) (vO 0 0 no)) hb1)
  replace cr := hide (cr.out.keep hb1)
  replace C0 := hide (C0.out.keep hb1)
  replace C1 := hide (C1.out.keep hb1)
  clear d1_01 d1_11
  have cru30 := cr.out.1.1
  have cru31 := cr.out.1.2.1
  have cru32 := cr.out.1.2.2
  have cru3f := cr.out.2
  have Bq2 := hide (below_put3 (b := w.heap.size) (B1.out) (by omega) (.int .i64 k) (.int .i64 i) (.string t))
  replace cr := hide (cr.out.put (.int .i64 k) (.int .i64 i) (.string t))
  obtain ⟨wq2, hwq2⟩ : ∃ wq2, put3 (w1) (w.heap.size) (.int .i64 k) (.int .i64 i) (.string t) = wq2 := ⟨_, rfl⟩
  rw [hwq2] at Bq2 cr
  unfold put3 at hwq2
  have cru40 := cr.out.1.1
  have cru41 := cr.out.1.2.1
  have cru42 := cr.out.1.2.2
  go_wp2_with fail
  refine bodyPost_ret (by simp [results, Tryz.results37, go_sem, cru40, cru41, cru42]; try rfl) rfl ?_
  exact ⟨rfl, Bq2.out⟩
set_option maxHeartbeats 1000000 in
set_option maxRecDepth 100000 in
theorem do_pow (y0 : Va) (y1 : Va) (r e : Int) (k i : Int) (t : ByteArray) (HO : CallIs 39 #[.int .i64 y0.i, .int .i64 y1.i] (.tuple #[.int .i64 r, .int .i64 e])) (HR : CallIs 22 #[.int .i64 r, .int .i64 e] (vV k i t)) (b o cap : Nat) (w : World) (HT : Tb w) (C0 : VaAt w b (o) y0) (C1 : VaAt w b (o + 3) y1) : Calls Tryz.prog 38 #[.slice (some ⟨b, o, none⟩) 2 cap] w fun e w' => e = .returned (vV k i t) ∧ Below w.heap.size w w' := by
  replace HT := hide HT
  go_enter Tryz.func38, Tryz.ntmps38
  try simp only [List.append]
  have cr : Hid (O3 (w.alloc (vO 0 0 no)) (w.heap.size) (.int .i64 0) (.int .i64 0) (.string no)) := hide (by have h0 := (O3.new w (.int .i64 0) (.int .i64 0) (.string no) 30); exact h0)
  replace C0 := hide (C0.keep ((Below.refl _ _).alloc (Nat.le_refl _) (vO 0 0 no)))
  replace C1 := hide (C1.keep ((Below.refl _ _).alloc (Nat.le_refl _) (vO 0 0 no)))
  have d1_01 : ((w.alloc (vO 0 0 no))).cell? ⟨b, o + 1, none⟩ = some (.int .i64 y0.i) := C0.out.2.1
  replace d1_01 := cell_regrown d1_01
  have d1_11 : ((w.alloc (vO 0 0 no))).cell? ⟨b, o + 4, none⟩ = some (.int .i64 y1.i) := C1.out.2.1
  replace d1_11 := cell_regrown d1_11
  have k10 := fun d' os => Calls.regrown_of (HO.out (grow (redrawn (w.alloc (vO 0 0 no)) d') os))
  have k11 := fun d' os => Calls.regrown_of (HR.out (grow (redrawn (w.alloc (vO 0 0 no)) d') os))
  go_wp2_with fail
  refine quiet_tail 12 (by kernel_rfl) (by kernel_rfl) ?_
  simp only [List.take_succ_cons, List.take_zero, List.drop_succ_cons, List.drop_zero]
  repeat (go_big_quiet_step (first | (with_reducible exact k10 _ _) | (with_reducible exact k11 _ _)))
  refine wpQuiet_nil ?_
  intro w1 hw1
  have hb1 : Below ((w.alloc (vO 0 0 no))).heap.size (w.alloc (vO 0 0 no)) w1 := by obtain ⟨⟨dq, osq⟩, hq⟩ := hw1; rw [hq]; exact below_regrown _ dq osq
  clear hw1  k10 k11
  have B1 := hide (next (step (Below.refl w.heap.size w) (vO 0 0 no)) hb1)
  replace cr := hide (cr.out.keep hb1)
  replace C0 := hide (C0.out.keep hb1)
  replace C1 := hide (C1.out.keep hb1)
  clear d1_01 d1_11
  have cru30 := cr.out.1.1
  have cru31 := cr.out.1.2.1
  have cru32 := cr.out.1.2.2
  have cru3f := cr.out.2
  have Bq2 := hide (below_put3 (b := w.heap.size) (B1.out) (by omega) (.int .i64 k) (.int .i64 i) (.string t))
  replace cr := hide (cr.out.put (.int .i64 k) (.int .i64 i) (.string t))
  obtain ⟨wq2, hwq2⟩ : ∃ wq2, put3 (w1) (w.heap.size) (.int .i64 k) (.int .i64 i) (.string t) = wq2 := ⟨_, rfl⟩
  rw [hwq2] at Bq2 cr
  unfold put3 at hwq2
  have cru40 := cr.out.1.1
  have cru41 := cr.out.1.2.1
  have cru42 := cr.out.1.2.2
  go_wp2_with fail
  refine bodyPost_ret (by simp [results, Tryz.results38, go_sem, cru40, cru41, cru42]; try rfl) rfl ?_
  exact ⟨rfl, Bq2.out⟩
set_option maxHeartbeats 1000000 in
set_option maxRecDepth 100000 in
theorem do_gcd (y0 : Va) (y1 : Va) (r e : Int) (k i : Int) (t : ByteArray) (HO : CallIs 41 #[.int .i64 y0.i, .int .i64 y1.i] (.tuple #[.int .i64 r, .int .i64 e])) (HR : CallIs 22 #[.int .i64 r, .int .i64 e] (vV k i t)) (b o cap : Nat) (w : World) (HT : Tb w) (C0 : VaAt w b (o) y0) (C1 : VaAt w b (o + 3) y1) : Calls Tryz.prog 40 #[.slice (some ⟨b, o, none⟩) 2 cap] w fun e w' => e = .returned (vV k i t) ∧ Below w.heap.size w w' := by
  replace HT := hide HT
  go_enter Tryz.func40, Tryz.ntmps40
  try simp only [List.append]
  have cr : Hid (O3 (w.alloc (vO 0 0 no)) (w.heap.size) (.int .i64 0) (.int .i64 0) (.string no)) := hide (by have h0 := (O3.new w (.int .i64 0) (.int .i64 0) (.string no) 30); exact h0)
  replace C0 := hide (C0.keep ((Below.refl _ _).alloc (Nat.le_refl _) (vO 0 0 no)))
  replace C1 := hide (C1.keep ((Below.refl _ _).alloc (Nat.le_refl _) (vO 0 0 no)))
  have d1_01 : ((w.alloc (vO 0 0 no))).cell? ⟨b, o + 1, none⟩ = some (.int .i64 y0.i) := C0.out.2.1
  replace d1_01 := cell_regrown d1_01
  have d1_11 : ((w.alloc (vO 0 0 no))).cell? ⟨b, o + 4, none⟩ = some (.int .i64 y1.i) := C1.out.2.1
  replace d1_11 := cell_regrown d1_11
  have k10 := fun d' os => Calls.regrown_of (HO.out (grow (redrawn (w.alloc (vO 0 0 no)) d') os))
  have k11 := fun d' os => Calls.regrown_of (HR.out (grow (redrawn (w.alloc (vO 0 0 no)) d') os))
  go_wp2_with fail
  refine quiet_tail 12 (by kernel_rfl) (by kernel_rfl) ?_
  simp only [List.take_succ_cons, List.take_zero, List.drop_succ_cons, List.drop_zero]
  repeat (go_big_quiet_step (first | (with_reducible exact k10 _ _) | (with_reducible exact k11 _ _)))
  refine wpQuiet_nil ?_
  intro w1 hw1
  have hb1 : Below ((w.alloc (vO 0 0 no))).heap.size (w.alloc (vO 0 0 no)) w1 := by obtain ⟨⟨dq, osq⟩, hq⟩ := hw1; rw [hq]; exact below_regrown _ dq osq
  clear hw1  k10 k11
  have B1 := hide (next (step (Below.refl w.heap.size w) (vO 0 0 no)) hb1)
  replace cr := hide (cr.out.keep hb1)
  replace C0 := hide (C0.out.keep hb1)
  replace C1 := hide (C1.out.keep hb1)
  clear d1_01 d1_11
  have cru30 := cr.out.1.1
  have cru31 := cr.out.1.2.1
  have cru32 := cr.out.1.2.2
  have cru3f := cr.out.2
  have Bq2 := hide (below_put3 (b := w.heap.size) (B1.out) (by omega) (.int .i64 k) (.int .i64 i) (.string t))
  replace cr := hide (cr.out.put (.int .i64 k) (.int .i64 i) (.string t))
  obtain ⟨wq2, hwq2⟩ : ∃ wq2, put3 (w1) (w.heap.size) (.int .i64 k) (.int .i64 i) (.string t) = wq2 := ⟨_, rfl⟩
  rw [hwq2] at Bq2 cr
  unfold put3 at hwq2
  have cru40 := cr.out.1.1
  have cru41 := cr.out.1.2.1
  have cru42 := cr.out.1.2.2
  go_wp2_with fail
  refine bodyPost_ret (by simp [results, Tryz.results40, go_sem, cru40, cru41, cru42]; try rfl) rfl ?_
  exact ⟨rfl, Bq2.out⟩
set_option maxHeartbeats 1000000 in
set_option maxRecDepth 100000 in
theorem do_lcm (y0 : Va) (y1 : Va) (r e : Int) (k i : Int) (t : ByteArray) (HO : CallIs 43 #[.int .i64 y0.i, .int .i64 y1.i] (.tuple #[.int .i64 r, .int .i64 e])) (HR : CallIs 22 #[.int .i64 r, .int .i64 e] (vV k i t)) (b o cap : Nat) (w : World) (HT : Tb w) (C0 : VaAt w b (o) y0) (C1 : VaAt w b (o + 3) y1) : Calls Tryz.prog 42 #[.slice (some ⟨b, o, none⟩) 2 cap] w fun e w' => e = .returned (vV k i t) ∧ Below w.heap.size w w' := by
  replace HT := hide HT
  go_enter Tryz.func42, Tryz.ntmps42
  try simp only [List.append]
  have cr : Hid (O3 (w.alloc (vO 0 0 no)) (w.heap.size) (.int .i64 0) (.int .i64 0) (.string no)) := hide (by have h0 := (O3.new w (.int .i64 0) (.int .i64 0) (.string no) 30); exact h0)
  replace C0 := hide (C0.keep ((Below.refl _ _).alloc (Nat.le_refl _) (vO 0 0 no)))
  replace C1 := hide (C1.keep ((Below.refl _ _).alloc (Nat.le_refl _) (vO 0 0 no)))
  have d1_01 : ((w.alloc (vO 0 0 no))).cell? ⟨b, o + 1, none⟩ = some (.int .i64 y0.i) := C0.out.2.1
  replace d1_01 := cell_regrown d1_01
  have d1_11 : ((w.alloc (vO 0 0 no))).cell? ⟨b, o + 4, none⟩ = some (.int .i64 y1.i) := C1.out.2.1
  replace d1_11 := cell_regrown d1_11
  have k10 := fun d' os => Calls.regrown_of (HO.out (grow (redrawn (w.alloc (vO 0 0 no)) d') os))
  have k11 := fun d' os => Calls.regrown_of (HR.out (grow (redrawn (w.alloc (vO 0 0 no)) d') os))
  go_wp2_with fail
  refine quiet_tail 12 (by kernel_rfl) (by kernel_rfl) ?_
  simp only [List.take_succ_cons, List.take_zero, List.drop_succ_cons, List.drop_zero]
  repeat (go_big_quiet_step (first | (with_reducible exact k10 _ _) | (with_reducible exact k11 _ _)))
  refine wpQuiet_nil ?_
  intro w1 hw1
  have hb1 : Below ((w.alloc (vO 0 0 no))).heap.size (w.alloc (vO 0 0 no)) w1 := by obtain ⟨⟨dq, osq⟩, hq⟩ := hw1; rw [hq]; exact below_regrown _ dq osq
  clear hw1  k10 k11
  have B1 := hide (next (step (Below.refl w.heap.size w) (vO 0 0 no)) hb1)
  replace cr := hide (cr.out.keep hb1)
  replace C0 := hide (C0.out.keep hb1)
  replace C1 := hide (C1.out.keep hb1)
  clear d1_01 d1_11
  have cru30 := cr.out.1.1
  have cru31 := cr.out.1.2.1
  have cru32 := cr.out.1.2.2
  have cru3f := cr.out.2
  have Bq2 := hide (below_put3 (b := w.heap.size) (B1.out) (by omega) (.int .i64 k) (.int .i64 i) (.string t))
  replace cr := hide (cr.out.put (.int .i64 k) (.int .i64 i) (.string t))
  obtain ⟨wq2, hwq2⟩ : ∃ wq2, put3 (w1) (w.heap.size) (.int .i64 k) (.int .i64 i) (.string t) = wq2 := ⟨_, rfl⟩
  rw [hwq2] at Bq2 cr
  unfold put3 at hwq2
  have cru40 := cr.out.1.1
  have cru41 := cr.out.1.2.1
  have cru42 := cr.out.1.2.2
  go_wp2_with fail
  refine bodyPost_ret (by simp [results, Tryz.results42, go_sem, cru40, cru41, cru42]; try rfl) rfl ?_
  exact ⟨rfl, Bq2.out⟩
end Go.Proofs.YtgnmkhjilecdhaaGreatDoor
