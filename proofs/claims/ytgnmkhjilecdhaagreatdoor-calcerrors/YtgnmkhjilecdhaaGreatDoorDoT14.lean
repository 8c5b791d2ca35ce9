/- What the rows that speak of texts do. Proved of the Go text. -/
import Derived.Test.YtgnmkhjilecdhaaGreatDoorCall14
import Derived.Test.YtgnmkhjilecdhaaGreatDoorBin14
namespace Go.Proofs.YtgnmkhjilecdhaaGreatDoor
open Go.RowKit Go.Sort
set_option linter.unusedVariables false

set_option maxHeartbeats 1000000 in
set_option maxRecDepth 100000 in
theorem do_len (y0 : Va) (r : Int) (k i : Int) (t : ByteArray) (HO : CallB 54 #[.string y0.t] (.int .i64 r)) (HR : CallIs 24 #[.int .i64 r] (vV k i t)) (b o cap : Nat) (w : World) (HT : Tb w) (C0 : VaAt w b (o) y0) : Calls Tryz.prog 53 #[.slice (some ⟨b, o, none⟩) 1 cap] w fun e w' => e = .returned (vV k i t) ∧ Below w.heap.size w w' := by
  replace HT := hide HT
  go_enter Tryz.func53, Tryz.ntmps53
  try simp only [List.append]
  have cr : Hid (O3 (w.alloc (vO 0 0 no)) (w.heap.size) (.int .i64 0) (.int .i64 0) (.string no)) := hide (by have h0 := (O3.new w (.int .i64 0) (.int .i64 0) (.string no) 30); exact h0)
  replace C0 := hide (C0.keep ((Below.refl _ _).alloc (Nat.le_refl _) (vO 0 0 no)))
  have d1_02 : ((w.alloc (vO 0 0 no))).cell? ⟨b, o + 2, none⟩ = some (.string y0.t) := C0.out.2.2
  go_wp2_with fail
  refine (HO.out _ (HT.out.keep (step (Below.refl w.heap.size w) (vO 0 0 no)))).mono ?_
  rintro e w1 ⟨rfl, hb1⟩
  clear d1_02
  have B1 := hide (next (step (Below.refl w.heap.size w) (vO 0 0 no)) hb1)
  replace cr := hide (cr.out.keep hb1)
  replace C0 := hide (C0.out.keep hb1)
  go_wp2_with fail
  refine (HR.out _).mono ?_
  rintro e w2 ⟨rfl, hb2⟩
  have B2 := hide (next (B1.out) hb2)
  replace cr := hide (cr.out.keep hb2)
  replace C0 := hide (C0.out.keep hb2)
  have cru30 := cr.out.1.1
  have cru31 := cr.out.1.2.1
  have cru32 := cr.out.1.2.2
  have cru3f := cr.out.2
  have Bq2 := hide (below_put3 (b := w.heap.size) (B2.out) (by omega) (.int .i64 k) (.int .i64 i) (.string t))
  replace cr := hide (cr.out.put (.int .i64 k) (.int .i64 i) (.string t))
  obtain ⟨wq2, hwq2⟩ : ∃ wq2, put3 (w2) (w.heap.size) (.int .i64 k) (.int .i64 i) (.string t) = wq2 := ⟨_, rfl⟩
  rw [hwq2] at Bq2 cr
  unfold put3 at hwq2
  have cru40 := cr.out.1.1
  have cru41 := cr.out.1.2.1
  have cru42 := cr.out.1.2.2
  go_wp2_with fail
  refine bodyPost_ret (by simp [results, Tryz.results53, go_sem, cru40, cru41, cru42]; try rfl) rfl ?_
  exact ⟨rfl, Bq2.out⟩
set_option maxHeartbeats 1000000 in
set_option maxRecDepth 100000 in
theorem do_left (y0 : Va) (y1 : Va) (r : ByteArray) (e : Int) (k i : Int) (t : ByteArray) (HO : CallB 57 #[.string y0.t, .int .i64 y1.i] (.tuple #[.string r, .int .i64 e])) (HR : CallIs 56 #[.string r, .int .i64 e] (vV k i t)) (b o cap : Nat) (w : World) (HT : Tb w) (C0 : VaAt w b (o) y0) (C1 : VaAt w b (o + 3) y1) : Calls Tryz.prog 55 #[.slice (some ⟨b, o, none⟩) 2 cap] w fun e w' => e = .returned (vV k i t) ∧ Below w.heap.size w w' := by
  replace HT := hide HT
  go_enter Tryz.func55, Tryz.ntmps55
  try simp only [List.append]
  have cr : Hid (O3 (w.alloc (vO 0 0 no)) (w.heap.size) (.int .i64 0) (.int .i64 0) (.string no)) := hide (by have h0 := (O3.new w (.int .i64 0) (.int .i64 0) (.string no) 30); exact h0)
  replace C0 := hide (C0.keep ((Below.refl _ _).alloc (Nat.le_refl _) (vO 0 0 no)))
  replace C1 := hide (C1.keep ((Below.refl _ _).alloc (Nat.le_refl _) (vO 0 0 no)))
  have d1_02 : ((w.alloc (vO 0 0 no))).cell? ⟨b, o + 2, none⟩ = some (.string y0.t) := C0.out.2.2
  replace d1_02 := cell_regrown d1_02
  have d1_11 : ((w.alloc (vO 0 0 no))).cell? ⟨b, o + 4, none⟩ = some (.int .i64 y1.i) := C1.out.2.1
  replace d1_11 := cell_regrown d1_11
  have k10 := fun d' os => Calls.regrown_of (HO.out (grow (redrawn (w.alloc (vO 0 0 no)) d') os) (HT.out.keep (next (step (Below.refl w.heap.size w) (vO 0 0 no)) (below_regrown _ d' os))))
  have k11 := fun d' os => Calls.regrown_of (HR.out (grow (redrawn (w.alloc (vO 0 0 no)) d') os))
  go_wp2_with fail
  refine quiet_tail 12 (by kernel_rfl) (by kernel_rfl) ?_
  simp only [List.take_succ_cons, List.take_zero, List.drop_succ_cons, List.drop_zero]
  repeat (go_big_quiet_step (first | (with_reducible exact k10 _ _) | (with_reducible exact k11 _ _)))
  refine wpQuiet_nil ?_
  intro w1 hw1
  have hb1 : Below ((w.alloc (vO 0 0 no))).heap.size (w.alloc (vO 0 0 no)) w1 := by obtain ⟨⟨dq, osq⟩, hq⟩ := hw1; rw [hq]; exact below_regrown _ dq osq
  clear hw1 k10 k11
  have B1 := hide (next (step (Below.refl w.heap.size w) (vO 0 0 no)) hb1)
  replace cr := hide (cr.out.keep hb1)
  replace C0 := hide (C0.out.keep hb1)
  replace C1 := hide (C1.out.keep hb1)
  clear d1_02 d1_11
  have cru30 := cr.out.1.1
  have cru31 := cr.out.1.2.1
  have cru32 := cr.out.1.2.2
  have cru3f := cr.out.2
  have Bq2 := hide (below_put3 (b := w.heap.size) (B1.out) (by omega) (.int .i64 k) (.int .i64 i) (.string t))
  replace cr := hide (cr.out.put (.int .i64 k) (.int .i64 i) (.string t))
  obtain ⟨wq2, hwq2⟩ : ∃ wq2, put3 (w1) (w.heap.size) (.int .i64 k) (.int .i64 i) (.string t) = wq2 := ⟨_, rfl⟩
  rw [hwq2] at Bq2 cr
  unfold put3 at hwq2
  have cru40 := cr.out.1.1
  have cru41 := cr.out.1.2.1
  have cru42 := cr.out.1.2.2
  go_wp2_with fail
  refine bodyPost_ret (by simp [results, Tryz.results55, go_sem, cru40, cru41, cru42]; try rfl) rfl ?_
  exact ⟨rfl, Bq2.out⟩
set_option maxHeartbeats 1000000 in
set_option maxRecDepth 100000 in
theorem do_right (y0 : Va) (y1 : Va) (r : ByteArray) (e : Int) (k i : Int) (t : ByteArray) (HO : CallB 59 #[.string y0.t, .int .i64 y1.i] (.tuple #[.string r, .int .i64 e])) (HR : CallIs 56 #[.string r, .int .i64 e] (vV k i t)) (b o cap : Nat) (w : World) (HT : Tb w) (C0 : VaAt w b (o) y0) (C1 : VaAt w b (o + 3) y1) : Calls Tryz.prog 58 #[.slice (some ⟨b, o, none⟩) 2 cap] w fun e w' => e = .returned (vV k i t) ∧ Below w.heap.size w w' := by
  replace HT := hide HT
  go_enter Tryz.func58, Tryz.ntmps58
  try simp only [List.append]
  have cr : Hid (O3 (w.alloc (vO 0 0 no)) (w.heap.size) (.int .i64 0) (.int .i64 0) (.string no)) := hide (by have h0 := (O3.new w (.int .i64 0) (.int .i64 0) (.string no) 30); exact h0)
  replace C0 := hide (C0.keep ((Below.refl _ _).alloc (Nat.le_refl _) (vO 0 0 no)))
  replace C1 := hide (C1.keep ((Below.refl _ _).alloc (Nat.le_refl _) (vO 0 0 no)))
  have d1_02 : ((w.alloc (vO 0 0 no))).cell? ⟨b, o + 2, none⟩ = some (.string y0.t) := C0.out.2.2
  replace d1_02 := cell_regrown d1_02
  have d1_11 : ((w.alloc (vO 0 0 no))).cell? ⟨b, o + 4, none⟩ = some (.int .i64 y1.i) := C1.out.2.1
  replace d1_11 := cell_regrown d1_11
  have k10 := fun d' os => Calls.regrown_of (HO.out (grow (redrawn (w.alloc (vO 0 0 no)) d') os) (HT.out.keep (next (step (Below.refl w.heap.size w) (vO 0 0 no)) (below_regrown _ d' os))))
  have k11 := fun d' os => Calls.regrown_of (HR.out (grow (redrawn (w.alloc (vO 0 0 no)) d') os))
  go_wp2_with fail
  refine quiet_tail 12 (by kernel_rfl) (by kernel_rfl) ?_
  simp only [List.take_succ_cons, List.take_zero, List.drop_succ_cons, List.drop_zero]
  repeat (go_big_quiet_step (first | (with_reducible exact k10 _ _) | (with_reducible exact k11 _ _)))
  refine wpQuiet_nil ?_
  intro w1 hw1
  have hb1 : Below ((w.alloc (vO 0 0 no))).heap.size (w.alloc (vO 0 0 no)) w1 := by obtain ⟨⟨dq, osq⟩, hq⟩ := hw1; rw [hq]; exact below_regrown _ dq osq
  clear hw1 k10 k11
  have B1 := hide (next (step (Below.refl w.heap.size w) (vO 0 0 no)) hb1)
  replace cr := hide (cr.out.keep hb1)
  replace C0 := hide (C0.out.keep hb1)
  replace C1 := hide (C1.out.keep hb1)
  clear d1_02 d1_11
  have cru30 := cr.out.1.1
  have cru31 := cr.out.1.2.1
  have cru32 := cr.out.1.2.2
  have cru3f := cr.out.2
  have Bq2 := hide (below_put3 (b := w.heap.size) (B1.out) (by omega) (.int .i64 k) (.int .i64 i) (.string t))
  replace cr := hide (cr.out.put (.int .i64 k) (.int .i64 i) (.string t))
  obtain ⟨wq2, hwq2⟩ : ∃ wq2, put3 (w1) (w.heap.size) (.int .i64 k) (.int .i64 i) (.string t) = wq2 := ⟨_, rfl⟩
  rw [hwq2] at Bq2 cr
  unfold put3 at hwq2
  have cru40 := cr.out.1.1
  have cru41 := cr.out.1.2.1
  have cru42 := cr.out.1.2.2
  go_wp2_with fail
  refine bodyPost_ret (by simp [results, Tryz.results58, go_sem, cru40, cru41, cru42]; try rfl) rfl ?_
  exact ⟨rfl, Bq2.out⟩
set_option maxHeartbeats 1000000 in
set_option maxRecDepth 100000 in
theorem do_rept (y0 : Va) (y1 : Va) (r : ByteArray) (e : Int) (k i : Int) (t : ByteArray) (HO : CallB 76 #[.string y0.t, .int .i64 y1.i] (.tuple #[.string r, .int .i64 e])) (HR : CallIs 56 #[.string r, .int .i64 e] (vV k i t)) (b o cap : Nat) (w : World) (HT : Tb w) (C0 : VaAt w b (o) y0) (C1 : VaAt w b (o + 3) y1) : Calls Tryz.prog 75 #[.slice (some ⟨b, o, none⟩) 2 cap] w fun e w' => e = .returned (vV k i t) ∧ Below w.heap.size w w' := by
  replace HT := hide HT
  go_enter Tryz.func75, Tryz.ntmps75
  try simp only [List.append]
  have cr : Hid (O3 (w.alloc (vO 0 0 no)) (w.heap.size) (.int .i64 0) (.int .i64 0) (.string no)) := hide (by have h0 := (O3.new w (.int .i64 0) (.int .i64 0) (.string no) 30); exact h0)
  replace C0 := hide (C0.keep ((Below.refl _ _).alloc (Nat.le_refl _) (vO 0 0 no)))
  replace C1 := hide (C1.keep ((Below.refl _ _).alloc (Nat.le_refl _) (vO 0 0 no)))
  have d1_02 : ((w.alloc (vO 0 0 no))).cell? ⟨b, o + 2, none⟩ = some (.string y0.t) := C0.out.2.2
  replace d1_02 := cell_regrown d1_02
  have d1_11 : ((w.alloc (vO 0 0 no))).cell? ⟨b, o + 4, none⟩ = some (.int .i64 y1.i) := C1.out.2.1
  replace d1_11 := cell_regrown d1_11
  have k10 := fun d' os => Calls.regrown_of (HO.out (grow (redrawn (w.alloc (vO 0 0 no)) d') os) (HT.out.keep (next (step (Below.refl w.heap.size w) (vO 0 0 no)) (below_regrown _ d' os))))
  have k11 := fun d' os => Calls.regrown_of (HR.out (grow (redrawn (w.alloc (vO 0 0 no)) d') os))
  go_wp2_with fail
  refine quiet_tail 12 (by kernel_rfl) (by kernel_rfl) ?_
  simp only [List.take_succ_cons, List.take_zero, List.drop_succ_cons, List.drop_zero]
  repeat (go_big_quiet_step (first | (with_reducible exact k10 _ _) | (with_reducible exact k11 _ _)))
  refine wpQuiet_nil ?_
  intro w1 hw1
  have hb1 : Below ((w.alloc (vO 0 0 no))).heap.size (w.alloc (vO 0 0 no)) w1 := by obtain ⟨⟨dq, osq⟩, hq⟩ := hw1; rw [hq]; exact below_regrown _ dq osq
  clear hw1 k10 k11
  have B1 := hide (next (step (Below.refl w.heap.size w) (vO 0 0 no)) hb1)
  replace cr := hide (cr.out.keep hb1)
  replace C0 := hide (C0.out.keep hb1)
  replace C1 := hide (C1.out.keep hb1)
  clear d1_02 d1_11
  have cru30 := cr.out.1.1
  have cru31 := cr.out.1.2.1
  have cru32 := cr.out.1.2.2
  have cru3f := cr.out.2
  have Bq2 := hide (below_put3 (b := w.heap.size) (B1.out) (by omega) (.int .i64 k) (.int .i64 i) (.string t))
  replace cr := hide (cr.out.put (.int .i64 k) (.int .i64 i) (.string t))
  obtain ⟨wq2, hwq2⟩ : ∃ wq2, put3 (w1) (w.heap.size) (.int .i64 k) (.int .i64 i) (.string t) = wq2 := ⟨_, rfl⟩
  rw [hwq2] at Bq2 cr
  unfold put3 at hwq2
  have cru40 := cr.out.1.1
  have cru41 := cr.out.1.2.1
  have cru42 := cr.out.1.2.2
  go_wp2_with fail
  refine bodyPost_ret (by simp [results, Tryz.results75, go_sem, cru40, cru41, cru42]; try rfl) rfl ?_
  exact ⟨rfl, Bq2.out⟩
set_option maxHeartbeats 1000000 in
set_option maxRecDepth 100000 in
theorem do_mid (y0 : Va) (y1 : Va) (y2 : Va) (r : ByteArray) (e : Int) (k i : Int) (t : ByteArray) (HO : CallB 61 #[.string y0.t, .int .i64 y1.i, .int .i64 y2.i] (.tuple #[.string r, .int .i64 e])) (HR : CallIs 56 #[.string r, .int .i64 e] (vV k i t)) (b o cap : Nat) (w : World) (HT : Tb w) (C0 : VaAt w b (o) y0) (C1 : VaAt w b (o + 3) y1) (C2 : VaAt w b (o + 6) y2) : Calls Tryz.prog 60 #[.slice (some ⟨b, o, none⟩) 3 cap] w fun e w' => e = .returned (vV k i t) ∧ Below w.heap.size w w' := by
  replace HT := hide HT
  go_enter Tryz.func60, Tryz.ntmps60
  try simp only [List.append]
  have cr : Hid (O3 (w.alloc (vO 0 0 no)) (w.heap.size) (.int .i64 0) (.int .i64 0) (.string no)) := hide (by have h0 := (O3.new w (.int .i64 0) (.int .i64 0) (.string no) 30); exact h0)
  replace C0 := hide (C0.keep ((Below.refl _ _).alloc (Nat.le_refl _) (vO 0 0 no)))
  replace C1 := hide (C1.keep ((Below.refl _ _).alloc (Nat.le_refl _) (vO 0 0 no)))
  replace C2 := hide (C2.keep ((Below.refl _ _).alloc (Nat.le_refl _) (vO 0 0 no)))
  have d1_02 : ((w.alloc (vO 0 0 no))).cell? ⟨b, o + 2, none⟩ = some (.string y0.t) := C0.out.2.2
  replace d1_02 := cell_regrown d1_02
  have d1_11 : ((w.alloc (vO 0 0 no))).cell? ⟨b, o + 4, none⟩ = some (.int .i64 y1.i) := C1.out.2.1
  replace d1_11 := cell_regrown d1_11
  have d1_21 : ((w.alloc (vO 0 0 no))).cell? ⟨b, o + 7, none⟩ = some (.int .i64 y2.i) := C2.out.2.1
  replace d1_21 := cell_regrown d1_21
  have k10 := fun d' os => Calls.regrown_of (HO.out (grow (redrawn (w.alloc (vO 0 0 no)) d') os) (HT.out.keep (next (step (Below.refl w.heap.size w) (vO 0 0 no)) (below_regrown _ d' os))))
  have k11 := fun d' os => Calls.regrown_of (HR.out (grow (redrawn (w.alloc (vO 0 0 no)) d') os))
  go_wp2_with fail
  refine quiet_tail 16 (by kernel_rfl) (by kernel_rfl) ?_
  simp only [List.take_succ_cons, List.take_zero, List.drop_succ_cons, List.drop_zero]
  repeat (go_big_quiet_step (first | (with_reducible exact k10 _ _) | (with_reducible exact k11 _ _)))
  refine wpQuiet_nil ?_
  intro w1 hw1
  have hb1 : Below ((w.alloc (vO 0 0 no))).heap.size (w.alloc (vO 0 0 no)) w1 := by obtain ⟨⟨dq, osq⟩, hq⟩ := hw1; rw [hq]; exact below_regrown _ dq osq
  clear hw1 k10 k11
  have B1 := hide (next (step (Below.refl w.heap.size w) (vO 0 0 no)) hb1)
  replace cr := hide (cr.out.keep hb1)
  replace C0 := hide (C0.out.keep hb1)
  replace C1 := hide (C1.out.keep hb1)
  replace C2 := hide (C2.out.keep hb1)
  clear d1_02 d1_11 d1_21
  have cru30 := cr.out.1.1
  have cru31 := cr.out.1.2.1
  have cru32 := cr.out.1.2.2
  have cru3f := cr.out.2
  have Bq2 := hide (below_put3 (b := w.heap.size) (B1.out) (by omega) (.int .i64 k) (.int .i64 i) (.string t))
  replace cr := hide (cr.out.put (.int .i64 k) (.int .i64 i) (.string t))
  obtain ⟨wq2, hwq2⟩ : ∃ wq2, put3 (w1) (w.heap.size) (.int .i64 k) (.int .i64 i) (.string t) = wq2 := ⟨_, rfl⟩
  rw [hwq2] at Bq2 cr
  unfold put3 at hwq2
  have cru40 := cr.out.1.1
  have cru41 := cr.out.1.2.1
  have cru42 := cr.out.1.2.2
  go_wp2_with fail
  refine bodyPost_ret (by simp [results, Tryz.results60, go_sem, cru40, cru41, cru42]; try rfl) rfl ?_
  exact ⟨rfl, Bq2.out⟩
set_option maxHeartbeats 1000000 in
set_option maxRecDepth 100000 in
theorem do_subst (y0 : Va) (y1 : Va) (y2 : Va) (r : ByteArray) (e : Int) (k i : Int) (t : ByteArray) (HO : CallB 73 #[.string y0.t, .string y1.t, .string y2.t] (.tuple #[.string r, .int .i64 e])) (HR : CallIs 56 #[.string r, .int .i64 e] (vV k i t)) (b o cap : Nat) (w : World) (HT : Tb w) (C0 : VaAt w b (o) y0) (C1 : VaAt w b (o + 3) y1) (C2 : VaAt w b (o + 6) y2) : Calls Tryz.prog 72 #[.slice (some ⟨b, o, none⟩) 3 cap] w fun e w' => e = .returned (vV k i t) ∧ Below w.heap.size w w' := by
  replace HT := hide HT
  go_enter Tryz.func72, Tryz.ntmps72
  try simp only [List.append]
  have cr : Hid (O3 (w.alloc (vO 0 0 no)) (w.heap.size) (.int .i64 0) (.int .i64 0) (.string no)) := hide (by have h0 := (O3.new w (.int .i64 0) (.int .i64 0) (.string no) 30); exact h0)
  replace C0 := hide (C0.keep ((Below.refl _ _).alloc (Nat.le_refl _) (vO 0 0 no)))
  replace C1 := hide (C1.keep ((Below.refl _ _).alloc (Nat.le_refl _) (vO 0 0 no)))
  replace C2 := hide (C2.keep ((Below.refl _ _).alloc (Nat.le_refl _) (vO 0 0 no)))
  have d1_02 : ((w.alloc (vO 0 0 no))).cell? ⟨b, o + 2, none⟩ = some (.string y0.t) := C0.out.2.2
  replace d1_02 := cell_regrown d1_02
  have d1_12 : ((w.alloc (vO 0 0 no))).cell? ⟨b, o + 5, none⟩ = some (.string y1.t) := C1.out.2.2
  replace d1_12 := cell_regrown d1_12
  have d1_22 : ((w.alloc (vO 0 0 no))).cell? ⟨b, o + 8, none⟩ = some (.string y2.t) := C2.out.2.2
  replace d1_22 := cell_regrown d1_22
  have k10 := fun d' os => Calls.regrown_of (HO.out (grow (redrawn (w.alloc (vO 0 0 no)) d') os) (HT.out.keep (next (step (Below.refl w.heap.size w) (vO 0 0 no)) (below_regrown _ d' os))))
  have k11 := fun d' os => Calls.regrown_of (HR.out (grow (redrawn (w.alloc (vO 0 0 no)) d') os))
  go_wp2_with fail
  refine quiet_tail 16 (by kernel_rfl) (by kernel_rfl) ?_
  simp only [List.take_succ_cons, List.take_zero, List.drop_succ_cons, List.drop_zero]
  repeat (go_big_quiet_step (first | (with_reducible exact k10 _ _) | (with_reducible exact k11 _ _)))
  refine wpQuiet_nil ?_
  intro w1 hw1
  have hb1 : Below ((w.alloc (vO 0 0 no))).heap.size (w.alloc (vO 0 0 no)) w1 := by obtain ⟨⟨dq, osq⟩, hq⟩ := hw1; rw [hq]; exact below_regrown _ dq osq
  clear hw1 k10 k11
  have B1 := hide (next (step (Below.refl w.heap.size w) (vO 0 0 no)) hb1)
  replace cr := hide (cr.out.keep hb1)
  replace C0 := hide (C0.out.keep hb1)
  replace C1 := hide (C1.out.keep hb1)
  replace C2 := hide (C2.out.keep hb1)
  clear d1_02 d1_12 d1_22
  have cru30 := cr.out.1.1
  have cru31 := cr.out.1.2.1
  have cru32 := cr.out.1.2.2
  have cru3f := cr.out.2
  have Bq2 := hide (below_put3 (b := w.heap.size) (B1.out) (by omega) (.int .i64 k) (.int .i64 i) (.string t))
  replace cr := hide (cr.out.put (.int .i64 k) (.int .i64 i) (.string t))
  obtain ⟨wq2, hwq2⟩ : ∃ wq2, put3 (w1) (w.heap.size) (.int .i64 k) (.int .i64 i) (.string t) = wq2 := ⟨_, rfl⟩
  rw [hwq2] at Bq2 cr
  unfold put3 at hwq2
  have cru40 := cr.out.1.1
  have cru41 := cr.out.1.2.1
  have cru42 := cr.out.1.2.2
  go_wp2_with fail
  refine bodyPost_ret (by simp [results, Tryz.results72, go_sem, cru40, cru41, cru42]; try rfl) rfl ?_
  exact ⟨rfl, Bq2.out⟩
set_option maxHeartbeats 1000000 in
set_option maxRecDepth 100000 in
theorem do_upper (y0 : Va) (r : ByteArray) (k i : Int) (t : ByteArray) (HO : CallB 64 #[.string y0.t] (.string r)) (HR : CallIs 63 #[.string r] (vV k i t)) (b o cap : Nat) (w : World) (HT : Tb w) (C0 : VaAt w b (o) y0) : Calls Tryz.prog 62 #[.slice (some ⟨b, o, none⟩) 1 cap] w fun e w' => e = .returned (vV k i t) ∧ Below w.heap.size w w' := by
  replace HT := hide HT
  go_enter Tryz.func62, Tryz.ntmps62
  try simp only [List.append]
  have cr : Hid (O3 (w.alloc (vO 0 0 no)) (w.heap.size) (.int .i64 0) (.int .i64 0) (.string no)) := hide (by have h0 := (O3.new w (.int .i64 0) (.int .i64 0) (.string no) 30); exact h0)
  replace C0 := hide (C0.keep ((Below.refl _ _).alloc (Nat.le_refl _) (vO 0 0 no)))
  have d1_02 : ((w.alloc (vO 0 0 no))).cell? ⟨b, o + 2, none⟩ = some (.string y0.t) := C0.out.2.2
  go_wp2_with fail
  refine (HO.out _ (HT.out.keep (step (Below.refl w.heap.size w) (vO 0 0 no)))).mono ?_
  rintro e w1 ⟨rfl, hb1⟩
  clear d1_02
  have B1 := hide (next (step (Below.refl w.heap.size w) (vO 0 0 no)) hb1)
  replace cr := hide (cr.out.keep hb1)
  replace C0 := hide (C0.out.keep hb1)
  go_wp2_with fail
  refine (HR.out _).mono ?_
  rintro e w2 ⟨rfl, hb2⟩
  have B2 := hide (next (B1.out) hb2)
  replace cr := hide (cr.out.keep hb2)
  replace C0 := hide (C0.out.keep hb2)
  have cru30 := cr.out.1.1
  have cru31 := cr.out.1.2.1
  have cru32 := cr.out.1.2.2
  have cru3f := cr.out.2
  have Bq2 := hide (below_put3 (b := w.heap.size) (B2.out) (by omega) (.int .i64 k) (.int .i64 i) (.string t))
  replace cr := hide (cr.out.put (.int .i64 k) (.int .i64 i) (.string t))
  obtain ⟨wq2, hwq2⟩ : ∃ wq2, put3 (w2) (w.heap.size) (.int .i64 k) (.int .i64 i) (.string t) = wq2 := ⟨_, rfl⟩
  rw [hwq2] at Bq2 cr
  unfold put3 at hwq2
  have cru40 := cr.out.1.1
  have cru41 := cr.out.1.2.1
  have cru42 := cr.out.1.2.2
  go_wp2_with fail
  refine bodyPost_ret (by simp [results, Tryz.results62, go_sem, cru40, cru41, cru42]; try rfl) rfl ?_
  exact ⟨rfl, Bq2.out⟩
set_option maxHeartbeats 1000000 in
set_option maxRecDepth 100000 in
theorem do_lower (y0 : Va) (r : ByteArray) (k i : Int) (t : ByteArray) (HO : CallB 66 #[.string y0.t] (.string r)) (HR : CallIs 63 #[.string r] (vV k i t)) (b o cap : Nat) (w : World) (HT : Tb w) (C0 : VaAt w b (o) y0) : Calls Tryz.prog 65 #[.slice (some ⟨b, o, none⟩) 1 cap] w fun e w' => e = .returned (vV k i t) ∧ Below w.heap.size w w' := by
  replace HT := hide HT
  go_enter Tryz.func65, Tryz.ntmps65
  try simp only [List.append]
  have cr : Hid (O3 (w.alloc (vO 0 0 no)) (w.heap.size) (.int .i64 0) (.int .i64 0) (.string no)) := hide (by have h0 := (O3.new w (.int .i64 0) (.int .i64 0) (.string no) 30); exact h0)
  replace C0 := hide (C0.keep ((Below.refl _ _).alloc (Nat.le_refl _) (vO 0 0 no)))
  have d1_02 : ((w.alloc (vO 0 0 no))).cell? ⟨b, o + 2, none⟩ = some (.string y0.t) := C0.out.2.2
  go_wp2_with fail
  refine (HO.out _ (HT.out.keep (step (Below.refl w.heap.size w) (vO 0 0 no)))).mono ?_
  rintro e w1 ⟨rfl, hb1⟩
  clear d1_02
  have B1 := hide (next (step (Below.refl w.heap.size w) (vO 0 0 no)) hb1)
  replace cr := hide (cr.out.keep hb1)
  replace C0 := hide (C0.out.keep hb1)
  go_wp2_with fail
  refine (HR.out _).mono ?_
  rintro e w2 ⟨rfl, hb2⟩
  have B2 := hide (next (B1.out) hb2)
  replace cr := hide (cr.out.keep hb2)
  replace C0 := hide (C0.out.keep hb2)
  have cru30 := cr.out.1.1
  have cru31 := cr.out.1.2.1
  have cru32 := cr.out.1.2.2
  have cru3f := cr.out.2
  have Bq2 := hide (below_put3 (b := w.heap.size) (B2.out) (by omega) (.int .i64 k) (.int .i64 i) (.string t))
  replace cr := hide (cr.out.put (.int .i64 k) (.int .i64 i) (.string t))
  obtain ⟨wq2, hwq2⟩ : ∃ wq2, put3 (w2) (w.heap.size) (.int .i64 k) (.int .i64 i) (.string t) = wq2 := ⟨_, rfl⟩
  rw [hwq2] at Bq2 cr
  unfold put3 at hwq2
  have cru40 := cr.out.1.1
  have cru41 := cr.out.1.2.1
  have cru42 := cr.out.1.2.2
  go_wp2_with fail
  refine bodyPost_ret (by simp [results, Tryz.results65, go_sem, cru40, cru41, cru42]; try rfl) rfl ?_
  exact ⟨rfl, Bq2.out⟩
set_option maxHeartbeats 1000000 in
set_option maxRecDepth 100000 in
theorem do_trim (y0 : Va) (r : ByteArray) (k i : Int) (t : ByteArray) (HO : CallB 68 #[.string y0.t] (.string r)) (HR : CallIs 63 #[.string r] (vV k i t)) (b o cap : Nat) (w : World) (HT : Tb w) (C0 : VaAt w b (o) y0) : Calls Tryz.prog 67 #[.slice (some ⟨b, o, none⟩) 1 cap] w fun e w' => e = .returned (vV k i t) ∧ Below w.heap.size w w' := by
  replace HT := hide HT
  go_enter Tryz.func67, Tryz.ntmps67
  try simp only [List.append]
  have cr : Hid (O3 (w.alloc (vO 0 0 no)) (w.heap.size) (.int .i64 0) (.int .i64 0) (.string no)) := hide (by have h0 := (O3.new w (.int .i64 0) (.int .i64 0) (.string no) 30); exact h0)
  replace C0 := hide (C0.keep ((Below.refl _ _).alloc (Nat.le_refl _) (vO 0 0 no)))
  have d1_02 : ((w.alloc (vO 0 0 no))).cell? ⟨b, o + 2, none⟩ = some (.string y0.t) := C0.out.2.2
  go_wp2_with fail
  refine (HO.out _ (HT.out.keep (step (Below.refl w.heap.size w) (vO 0 0 no)))).mono ?_
  rintro e w1 ⟨rfl, hb1⟩
  clear d1_02
  have B1 := hide (next (step (Below.refl w.heap.size w) (vO 0 0 no)) hb1)
  replace cr := hide (cr.out.keep hb1)
  replace C0 := hide (C0.out.keep hb1)
  go_wp2_with fail
  refine (HR.out _).mono ?_
  rintro e w2 ⟨rfl, hb2⟩
  have B2 := hide (next (B1.out) hb2)
  replace cr := hide (cr.out.keep hb2)
  replace C0 := hide (C0.out.keep hb2)
  have cru30 := cr.out.1.1
  have cru31 := cr.out.1.2.1
  have cru32 := cr.out.1.2.2
  have cru3f := cr.out.2
  have Bq2 := hide (below_put3 (b := w.heap.size) (B2.out) (by omega) (.int .i64 k) (.int .i64 i) (.string t))
  replace cr := hide (cr.out.put (.int .i64 k) (.int .i64 i) (.string t))
  obtain ⟨wq2, hwq2⟩ : ∃ wq2, put3 (w2) (w.heap.size) (.int .i64 k) (.int .i64 i) (.string t) = wq2 := ⟨_, rfl⟩
  rw [hwq2] at Bq2 cr
  unfold put3 at hwq2
  have cru40 := cr.out.1.1
  have cru41 := cr.out.1.2.1
  have cru42 := cr.out.1.2.2
  go_wp2_with fail
  refine bodyPost_ret (by simp [results, Tryz.results67, go_sem, cru40, cru41, cru42]; try rfl) rfl ?_
  exact ⟨rfl, Bq2.out⟩
set_option maxHeartbeats 1000000 in
set_option maxRecDepth 100000 in
theorem do_turn (y0 : Va) (r : ByteArray) (k i : Int) (t : ByteArray) (HO : CallB 70 #[.string y0.t] (.string r)) (HR : CallIs 63 #[.string r] (vV k i t)) (b o cap : Nat) (w : World) (HT : Tb w) (C0 : VaAt w b (o) y0) : Calls Tryz.prog 69 #[.slice (some ⟨b, o, none⟩) 1 cap] w fun e w' => e = .returned (vV k i t) ∧ Below w.heap.size w w' := by
  replace HT := hide HT
  go_enter Tryz.func69, Tryz.ntmps69
  try simp only [List.append]
  have cr : Hid (O3 (w.alloc (vO 0 0 no)) (w.heap.size) (.int .i64 0) (.int .i64 0) (.string no)) := hide (by have h0 := (O3.new w (.int .i64 0) (.int .i64 0) (.string no) 30); exact h0)
  replace C0 := hide (C0.keep ((Below.refl _ _).alloc (Nat.le_refl _) (vO 0 0 no)))
  have d1_02 : ((w.alloc (vO 0 0 no))).cell? ⟨b, o + 2, none⟩ = some (.string y0.t) := C0.out.2.2
  go_wp2_with fail
  refine (HO.out _ (HT.out.keep (step (Below.refl w.heap.size w) (vO 0 0 no)))).mono ?_
  rintro e w1 ⟨rfl, hb1⟩
  clear d1_02
  have B1 := hide (next (step (Below.refl w.heap.size w) (vO 0 0 no)) hb1)
  replace cr := hide (cr.out.keep hb1)
  replace C0 := hide (C0.out.keep hb1)
  go_wp2_with fail
  refine (HR.out _).mono ?_
  rintro e w2 ⟨rfl, hb2⟩
  have B2 := hide (next (B1.out) hb2)
  replace cr := hide (cr.out.keep hb2)
  replace C0 := hide (C0.out.keep hb2)
  have cru30 := cr.out.1.1
  have cru31 := cr.out.1.2.1
  have cru32 := cr.out.1.2.2
  have cru3f := cr.out.2
  have Bq2 := hide (below_put3 (b := w.heap.size) (B2.out) (by omega) (.int .i64 k) (.int .i64 i) (.string t))
  replace cr := hide (cr.out.put (.int .i64 k) (.int .i64 i) (.string t))
  obtain ⟨wq2, hwq2⟩ : ∃ wq2, put3 (w2) (w.heap.size) (.int .i64 k) (.int .i64 i) (.string t) = wq2 := ⟨_, rfl⟩
  rw [hwq2] at Bq2 cr
  unfold put3 at hwq2
  have cru40 := cr.out.1.1
  have cru41 := cr.out.1.2.1
  have cru42 := cr.out.1.2.2
  go_wp2_with fail
  refine bodyPost_ret (by simp [results, Tryz.results69, go_sem, cru40, cru41, cru42]; try rfl) rfl ?_
  exact ⟨rfl, Bq2.out⟩
set_option maxHeartbeats 1000000 in
set_option maxRecDepth 100000 in
theorem do_code (y0 : Va) (r e : Int) (k i : Int) (t : ByteArray) (HO : CallB 80 #[.string y0.t] (.tuple #[.int .i64 r, .int .i64 e])) (HR : CallIs 79 #[.int .i64 r, .int .i64 e] (vV k i t)) (b o cap : Nat) (w : World) (HT : Tb w) (C0 : VaAt w b (o) y0) : Calls Tryz.prog 78 #[.slice (some ⟨b, o, none⟩) 1 cap] w fun e w' => e = .returned (vV k i t) ∧ Below w.heap.size w w' := by
  replace HT := hide HT
  go_enter Tryz.func78, Tryz.ntmps78
  try simp only [List.append]
  have cr : Hid (O3 (w.alloc (vO 0 0 no)) (w.heap.size) (.int .i64 0) (.int .i64 0) (.string no)) := hide (by have h0 := (O3.new w (.int .i64 0) (.int .i64 0) (.string no) 30); exact h0)
  replace C0 := hide (C0.keep ((Below.refl _ _).alloc (Nat.le_refl _) (vO 0 0 no)))
  have d1_02 : ((w.alloc (vO 0 0 no))).cell? ⟨b, o + 2, none⟩ = some (.string y0.t) := C0.out.2.2
  go_wp2_with fail
  refine (HO.out _ (HT.out.keep (step (Below.refl w.heap.size w) (vO 0 0 no)))).mono ?_
  rintro e w1 ⟨rfl, hb1⟩
  clear d1_02
  have B1 := hide (next (step (Below.refl w.heap.size w) (vO 0 0 no)) hb1)
  replace cr := hide (cr.out.keep hb1)
  replace C0 := hide (C0.out.keep hb1)
  go_wp2_with fail
  refine (HR.out _).mono ?_
  rintro e w2 ⟨rfl, hb2⟩
  have B2 := hide (next (B1.out) hb2)
  replace cr := hide (cr.out.keep hb2)
  replace C0 := hide (C0.out.keep hb2)
  have cru30 := cr.out.1.1
  have cru31 := cr.out.1.2.1
  have cru32 := cr.out.1.2.2
  have cru3f := cr.out.2
  have Bq2 := hide (below_put3 (b := w.heap.size) (B2.out) (by omega) (.int .i64 k) (.int .i64 i) (.string t))
  replace cr := hide (cr.out.put (.int .i64 k) (.int .i64 i) (.string t))
  obtain ⟨wq2, hwq2⟩ : ∃ wq2, put3 (w2) (w.heap.size) (.int .i64 k) (.int .i64 i) (.string t) = wq2 := ⟨_, rfl⟩
  rw [hwq2] at Bq2 cr
  unfold put3 at hwq2
  have cru40 := cr.out.1.1
  have cru41 := cr.out.1.2.1
  have cru42 := cr.out.1.2.2
  go_wp2_with fail
  refine bodyPost_ret (by simp [results, Tryz.results78, go_sem, cru40, cru41, cru42]; try rfl) rfl ?_
  exact ⟨rfl, Bq2.out⟩
set_option maxHeartbeats 1000000 in
set_option maxRecDepth 100000 in
theorem do_char (y0 : Va) (r : ByteArray) (e : Int) (k i : Int) (t : ByteArray) (HO : CallB 82 #[.int .i64 y0.i] (.tuple #[.string r, .int .i64 e])) (HR : CallIs 56 #[.string r, .int .i64 e] (vV k i t)) (b o cap : Nat) (w : World) (HT : Tb w) (C0 : VaAt w b (o) y0) : Calls Tryz.prog 81 #[.slice (some ⟨b, o, none⟩) 1 cap] w fun e w' => e = .returned (vV k i t) ∧ Below w.heap.size w w' := by
  replace HT := hide HT
  go_enter Tryz.func81, Tryz.ntmps81
  try simp only [List.append]
  have cr : Hid (O3 (w.alloc (vO 0 0 no)) (w.heap.size) (.int .i64 0) (.int .i64 0) (.string no)) := hide (by have h0 := (O3.new w (.int .i64 0) (.int .i64 0) (.string no) 30); exact h0)
  replace C0 := hide (C0.keep ((Below.refl _ _).alloc (Nat.le_refl _) (vO 0 0 no)))
  have d1_01 : ((w.alloc (vO 0 0 no))).cell? ⟨b, o + 1, none⟩ = some (.int .i64 y0.i) := C0.out.2.1
  go_wp2_with fail
  refine (HO.out _ (HT.out.keep (step (Below.refl w.heap.size w) (vO 0 0 no)))).mono ?_
  rintro e w1 ⟨rfl, hb1⟩
  clear d1_01
  have B1 := hide (next (step (Below.refl w.heap.size w) (vO 0 0 no)) hb1)
  replace cr := hide (cr.out.keep hb1)
  replace C0 := hide (C0.out.keep hb1)
  go_wp2_with fail
  refine (HR.out _).mono ?_
  rintro e w2 ⟨rfl, hb2⟩
  have B2 := hide (next (B1.out) hb2)
  replace cr := hide (cr.out.keep hb2)
  replace C0 := hide (C0.out.keep hb2)
  have cru30 := cr.out.1.1
  have cru31 := cr.out.1.2.1
  have cru32 := cr.out.1.2.2
  have cru3f := cr.out.2
  have Bq2 := hide (below_put3 (b := w.heap.size) (B2.out) (by omega) (.int .i64 k) (.int .i64 i) (.string t))
  replace cr := hide (cr.out.put (.int .i64 k) (.int .i64 i) (.string t))
  obtain ⟨wq2, hwq2⟩ : ∃ wq2, put3 (w2) (w.heap.size) (.int .i64 k) (.int .i64 i) (.string t) = wq2 := ⟨_, rfl⟩
  rw [hwq2] at Bq2 cr
  unfold put3 at hwq2
  have cru40 := cr.out.1.1
  have cru41 := cr.out.1.2.1
  have cru42 := cr.out.1.2.2
  go_wp2_with fail
  refine bodyPost_ret (by simp [results, Tryz.results81, go_sem, cru40, cru41, cru42]; try rfl) rfl ?_
  exact ⟨rfl, Bq2.out⟩
set_option maxHeartbeats 1000000 in
set_option maxRecDepth 100000 in
theorem do_find (y0 : Va) (y1 : Va) (y2 : Va) (r e : Int) (k i : Int) (t : ByteArray) (HO : CallB 113 #[.string y0.t, .string y1.t, .int .i64 y2.i] (.tuple #[.int .i64 r, .int .i64 e])) (HR : CallIs 79 #[.int .i64 r, .int .i64 e] (vV k i t)) (b o cap : Nat) (w : World) (HT : Tb w) (C0 : VaAt w b (o) y0) (C1 : VaAt w b (o + 3) y1) (C2 : VaAt w b (o + 6) y2) : Calls Tryz.prog 71 #[.slice (some ⟨b, o, none⟩) 3 cap] w fun e w' => e = .returned (vV k i t) ∧ Below w.heap.size w w' := by
  replace HT := hide HT
  go_enter Tryz.func71, Tryz.ntmps71
  try simp only [List.append]
  have cr : Hid (O3 (w.alloc (vO 0 0 no)) (w.heap.size) (.int .i64 0) (.int .i64 0) (.string no)) := hide (by have h0 := (O3.new w (.int .i64 0) (.int .i64 0) (.string no) 30); exact h0)
  replace C0 := hide (C0.keep ((Below.refl _ _).alloc (Nat.le_refl _) (vO 0 0 no)))
  replace C1 := hide (C1.keep ((Below.refl _ _).alloc (Nat.le_refl _) (vO 0 0 no)))
  replace C2 := hide (C2.keep ((Below.refl _ _).alloc (Nat.le_refl _) (vO 0 0 no)))
  have d1_02 : ((w.alloc (vO 0 0 no))).cell? ⟨b, o + 2, none⟩ = some (.string y0.t) := C0.out.2.2
  replace d1_02 := cell_regrown d1_02
  have d1_12 : ((w.alloc (vO 0 0 no))).cell? ⟨b, o + 5, none⟩ = some (.string y1.t) := C1.out.2.2
  replace d1_12 := cell_regrown d1_12
  have d1_21 : ((w.alloc (vO 0 0 no))).cell? ⟨b, o + 7, none⟩ = some (.int .i64 y2.i) := C2.out.2.1
  replace d1_21 := cell_regrown d1_21
  have k10 := fun d' os => Calls.regrown_of (HO.out (grow (redrawn (w.alloc (vO 0 0 no)) d') os) (HT.out.keep (next (step (Below.refl w.heap.size w) (vO 0 0 no)) (below_regrown _ d' os))))
  go_wp2_with fail
  refine wp_region_quiet_below (by kernel_rfl) (by kernel_rfl) ?_
  repeat (go_big_quiet_step (first | (with_reducible exact k10 _ _)))
  refine wpQuiet_nil ?_
  intro w1 hw1
  have hb1 : Below ((w.alloc (vO 0 0 no))).heap.size (w.alloc (vO 0 0 no)) w1 := by obtain ⟨⟨dq, osq⟩, hq⟩ := hw1; rw [hq]; exact below_regrown _ dq osq
  clear hw1 k10
  have B1 := hide (next (step (Below.refl w.heap.size w) (vO 0 0 no)) hb1)
  replace cr := hide (cr.out.keep hb1)
  replace C0 := hide (C0.out.keep hb1)
  replace C1 := hide (C1.out.keep hb1)
  replace C2 := hide (C2.out.keep hb1)
  clear d1_02 d1_12 d1_21
  go_wp2_with fail
  refine (HR.out _).mono ?_
  rintro e w2 ⟨rfl, hb2⟩
  have B2 := hide (next (B1.out) hb2)
  replace cr := hide (cr.out.keep hb2)
  replace C0 := hide (C0.out.keep hb2)
  replace C1 := hide (C1.out.keep hb2)
  replace C2 := hide (C2.out.keep hb2)
  have cru30 := cr.out.1.1
  have cru31 := cr.out.1.2.1
  have cru32 := cr.out.1.2.2
  have cru3f := cr.out.2
  have Bq2 := hide (below_put3 (b := w.heap.size) (B2.out) (by omega) (.int .i64 k) (.int .i64 i) (.string t))
  replace cr := hide (cr.out.put (.int .i64 k) (.int .i64 i) (.string t))
  obtain ⟨wq2, hwq2⟩ : ∃ wq2, put3 (w2) (w.heap.size) (.int .i64 k) (.int .i64 i) (.string t) = wq2 := ⟨_, rfl⟩
  rw [hwq2] at Bq2 cr
  unfold put3 at hwq2
  have cru40 := cr.out.1.1
  have cru41 := cr.out.1.2.1
  have cru42 := cr.out.1.2.2
  go_wp2_with fail
  refine bodyPost_ret (by simp [results, Tryz.results71, go_sem, cru40, cru41, cru42]; try rfl) rfl ?_
  exact ⟨rfl, Bq2.out⟩
def cat3 (s t u : ByteArray) : ByteArray := ⟨(s.data.toList ++ (t.data.toList ++ u.data.toList)).toArray⟩
theorem cat3_size (s t u : ByteArray) : (cat3 s t u).size = s.size + (t.size + u.size) := by
  show (s.data.toList ++ (t.data.toList ++ u.data.toList)).toArray.size = _
  rw [List.size_toArray, List.length_append, List.length_append, Array.length_toList, Array.length_toList, Array.length_toList]
  rfl
theorem join3 (s t u : ByteArray) : Lib.join ([s, t, u].map (·.data.toList)) no.data.toList = s.data.toList ++ (t.data.toList ++ u.data.toList) := by
  show s.data.toList ++ ([] ++ (t.data.toList ++ ([] ++ (u.data.toList ++ [])))) = _
  rw [List.append_nil, List.nil_append, List.nil_append]
theorem catB3 (s t u : ByteArray) : catB [s, t, u] = cat3 s t u := by
  unfold catB cat3
  congr 2
  exact join3 s t u
theorem chained3 (w : World) (s t u : ByteArray) (h : s.size + (t.size + u.size) ≤ 140737488355328) : Calls Tryz.prog 100 #[.slice (some ⟨w.heap.size, 0, none⟩) 3 3] (w.alloc (.cells #[.string s, .string t, .string u] 9)) fun e w' => e = .returned (vV (chV (cat3 s t u)).k (chV (cat3 s t u)).i (chV (cat3 s t u)).t) ∧ Below (w.alloc (.cells #[.string s, .string t, .string u] 9)).heap.size (w.alloc (.cells #[.string s, .string t, .string u] 9)) w' := by
  have := chained_any [s, t, u] w.heap.size 0 3 (w.alloc (.cells #[.string s, .string t, .string u] 9)) (fun j x hx => by
    match j, hx with
    | 0, hx => obtain rfl : s = x := by simpa using hx
               go_simp
    | 1, hx => obtain rfl : t = x := by simpa using hx
               go_simp
    | 2, hx => obtain rfl : u = x := by simpa using hx
               go_simp) (by simp) (by show 3 ≤ 140737488355328; decide) (by show 3 ≤ 3; decide) (by rw [join3, List.length_append, List.length_append, Array.length_toList, Array.length_toList, Array.length_toList]; exact h)
  rw [catB3] at this
  exact this
set_option maxHeartbeats 2000000 in
set_option maxRecDepth 100000 in
theorem do_repl_no (y0 : Va) (y1 : Va) (y2 : Va) (y3 : Va) (m : ByteArray) (e : Int) (he : (e != 0) = true) (HM : CallB 61 #[.string y0.t, .int .i64 y1.i, .int .i64 y2.i] (.tuple #[.string m, .int .i64 e])) (b o cap : Nat) (w : World) (HT : Tb w) (C0 : VaAt w b (o) y0) (C1 : VaAt w b (o + 3) y1) (C2 : VaAt w b (o + 6) y2) (C3 : VaAt w b (o + 9) y3) : Calls Tryz.prog 74 #[.slice (some ⟨b, o, none⟩) 4 cap] w fun e w' => e = .returned (vV 4 4 no) ∧ Below w.heap.size w w' := by
  replace HT := hide HT
  have HE := cfault_is 4
  go_enter Tryz.func74, Tryz.ntmps74
  try simp only [List.append]
  have cr : Hid (O3 (w.alloc (vO 0 0 no)) (w.heap.size) (.int .i64 0) (.int .i64 0) (.string no)) := hide (by have h0 := (O3.new w (.int .i64 0) (.int .i64 0) (.string no) 30); exact h0)
  replace C0 := hide (C0.keep ((Below.refl _ _).alloc (Nat.le_refl _) (vO 0 0 no)))
  replace C1 := hide (C1.keep ((Below.refl _ _).alloc (Nat.le_refl _) (vO 0 0 no)))
  replace C2 := hide (C2.keep ((Below.refl _ _).alloc (Nat.le_refl _) (vO 0 0 no)))
  replace C3 := hide (C3.keep ((Below.refl _ _).alloc (Nat.le_refl _) (vO 0 0 no)))
  have d1_02 : ((w.alloc (vO 0 0 no))).cell? ⟨b, o + 2, none⟩ = some (.string y0.t) := C0.out.2.2
  replace d1_02 := cell_regrown d1_02
  have d1_11 : ((w.alloc (vO 0 0 no))).cell? ⟨b, o + 4, none⟩ = some (.int .i64 y1.i) := C1.out.2.1
  replace d1_11 := cell_regrown d1_11
  have d1_21 : ((w.alloc (vO 0 0 no))).cell? ⟨b, o + 7, none⟩ = some (.int .i64 y2.i) := C2.out.2.1
  replace d1_21 := cell_regrown d1_21
  have d1_32 : ((w.alloc (vO 0 0 no))).cell? ⟨b, o + 11, none⟩ = some (.string y3.t) := C3.out.2.2
  replace d1_32 := cell_regrown d1_32
  go_wp2_with fail
  refine wp_region_quiet_below (by kernel_rfl) (by kernel_rfl) ?_
  repeat (go_big_quiet_step (first | fail))
  refine wpQuiet_nil ?_
  intro w1 hw1
  have hb1 : Below ((w.alloc (vO 0 0 no))).heap.size (w.alloc (vO 0 0 no)) w1 := by obtain ⟨⟨dq, osq⟩, hq⟩ := hw1; rw [hq]; exact below_regrown _ dq osq
  clear hw1 
  have B1 := hide (next (step (Below.refl w.heap.size w) (vO 0 0 no)) hb1)
  replace cr := hide (cr.out.keep hb1)
  replace C0 := hide (C0.out.keep hb1)
  replace C1 := hide (C1.out.keep hb1)
  replace C2 := hide (C2.out.keep hb1)
  replace C3 := hide (C3.out.keep hb1)
  clear d1_02 d1_11 d1_21 d1_32
  go_wp2_with fail
  refine (HM.out _ (HT.out.keep (B1.out))).mono ?_
  rintro e w2 ⟨rfl, hb2⟩
  have B2 := hide (next (B1.out) hb2)
  replace cr := hide (cr.out.keep hb2)
  replace C0 := hide (C0.out.keep hb2)
  replace C1 := hide (C1.out.keep hb2)
  replace C2 := hide (C2.out.keep hb2)
  replace C3 := hide (C3.out.keep hb2)
  go_wp2_with fail
  refine (HE.out _).mono ?_
  rintro e w3 ⟨rfl, hb3⟩
  have B3 := hide (next (B2.out) hb3)
  replace cr := hide (cr.out.keep hb3)
  replace C0 := hide (C0.out.keep hb3)
  replace C1 := hide (C1.out.keep hb3)
  replace C2 := hide (C2.out.keep hb3)
  replace C3 := hide (C3.out.keep hb3)
  have cru30 := cr.out.1.1
  have cru31 := cr.out.1.2.1
  have cru32 := cr.out.1.2.2
  have cru3f := cr.out.2
  have Bq2 := hide (below_put3 (b := w.heap.size) (B3.out) (by omega) (.int .i64 4) (.int .i64 4) (.string no))
  replace cr := hide (cr.out.put (.int .i64 4) (.int .i64 4) (.string no))
  obtain ⟨wq2, hwq2⟩ : ∃ wq2, put3 (w3) (w.heap.size) (.int .i64 4) (.int .i64 4) (.string no) = wq2 := ⟨_, rfl⟩
  rw [hwq2] at Bq2 cr
  unfold put3 at hwq2
  have cru40 := cr.out.1.1
  have cru41 := cr.out.1.2.1
  have cru42 := cr.out.1.2.2
  go_wp2_with fail
  refine bodyPost_ret (by simp [results, Tryz.results74, go_sem, cru40, cru41, cru42]; try rfl) rfl ?_
  exact ⟨rfl, Bq2.out⟩
theorem sl_from (s : ByteArray) (q : Nat) (h : q ≤ s.size) (w : World) : (Instr.slice 9 (.string s) (some (.int .i64 (q : Int))) none none).run Tryz.prog w = .ok (.string (s.extract q s.size)) w := by
  have := run_slice_string_l (P := Tryz.prog) (w := w) (t := 9) (s := s) Tryz.underlying9 .i64 (q : Int) (by omega) (by omega)
  rw [Int.toNat_natCast] at this
  exact this
set_option maxHeartbeats 2000000 in
set_option maxRecDepth 100000 in
theorem do_repl (y0 : Va) (y1 : Va) (y2 : Va) (y3 : Va) (a m : ByteArray) (z : Int) (hs : a.size + m.size ≤ y0.t.size) (hl : a.size + (y3.t.size + (y0.t.extract (a.size + m.size) y0.t.size).size) ≤ 140737488355328) (hw1 : wrap64 (y1.i - 1) = y1.i - 1) (hw2 : wrap64 ((a.size : Int) + (m.size : Int)) = (a.size : Int) + (m.size : Int)) (HM : CallB 61 #[.string y0.t, .int .i64 y1.i, .int .i64 y2.i] (.tuple #[.string m, .int .i64 0])) (HL : CallB 57 #[.string y0.t, .int .i64 (y1.i - 1)] (.tuple #[.string a, .int .i64 z])) (b o cap : Nat) (w : World) (HT : Tb w) (C0 : VaAt w b (o) y0) (C1 : VaAt w b (o + 3) y1) (C2 : VaAt w b (o + 6) y2) (C3 : VaAt w b (o + 9) y3) : Calls Tryz.prog 74 #[.slice (some ⟨b, o, none⟩) 4 cap] w fun e w' => e = .returned (vV (chV (cat3 a y3.t (y0.t.extract (a.size + m.size) y0.t.size))).k (chV (cat3 a y3.t (y0.t.extract (a.size + m.size) y0.t.size))).i (chV (cat3 a y3.t (y0.t.extract (a.size + m.size) y0.t.size))).t) ∧ Below w.heap.size w w' := by
  replace HT := hide HT
  have hsl := fun w => sl_from y0.t (a.size + m.size) hs w
  push_cast at hsl
  have wq := hide hw1
  have hq1 := hw1
  clear hw1 hs
  go_enter Tryz.func74, Tryz.ntmps74
  try simp only [List.append]
  have cr : Hid (O3 (w.alloc (vO 0 0 no)) (w.heap.size) (.int .i64 0) (.int .i64 0) (.string no)) := hide (by have h0 := (O3.new w (.int .i64 0) (.int .i64 0) (.string no) 30); exact h0)
  replace C0 := hide (C0.keep ((Below.refl _ _).alloc (Nat.le_refl _) (vO 0 0 no)))
  replace C1 := hide (C1.keep ((Below.refl _ _).alloc (Nat.le_refl _) (vO 0 0 no)))
  replace C2 := hide (C2.keep ((Below.refl _ _).alloc (Nat.le_refl _) (vO 0 0 no)))
  replace C3 := hide (C3.keep ((Below.refl _ _).alloc (Nat.le_refl _) (vO 0 0 no)))
  have d1_02 : ((w.alloc (vO 0 0 no))).cell? ⟨b, o + 2, none⟩ = some (.string y0.t) := C0.out.2.2
  replace d1_02 := cell_regrown d1_02
  have d1_11 : ((w.alloc (vO 0 0 no))).cell? ⟨b, o + 4, none⟩ = some (.int .i64 y1.i) := C1.out.2.1
  replace d1_11 := cell_regrown d1_11
  have d1_21 : ((w.alloc (vO 0 0 no))).cell? ⟨b, o + 7, none⟩ = some (.int .i64 y2.i) := C2.out.2.1
  replace d1_21 := cell_regrown d1_21
  have d1_32 : ((w.alloc (vO 0 0 no))).cell? ⟨b, o + 11, none⟩ = some (.string y3.t) := C3.out.2.2
  replace d1_32 := cell_regrown d1_32
  go_wp2_with fail
  refine wp_region_quiet_below (by kernel_rfl) (by kernel_rfl) ?_
  repeat (go_big_quiet_step (first | fail))
  refine wpQuiet_nil ?_
  intro w1 hw1
  have hb1 : Below ((w.alloc (vO 0 0 no))).heap.size (w.alloc (vO 0 0 no)) w1 := by obtain ⟨⟨dq, osq⟩, hq⟩ := hw1; rw [hq]; exact below_regrown _ dq osq
  clear hw1 
  have B1 := hide (next (step (Below.refl w.heap.size w) (vO 0 0 no)) hb1)
  replace cr := hide (cr.out.keep hb1)
  replace C0 := hide (C0.out.keep hb1)
  replace C1 := hide (C1.out.keep hb1)
  replace C2 := hide (C2.out.keep hb1)
  replace C3 := hide (C3.out.keep hb1)
  clear d1_02 d1_11 d1_21 d1_32
  go_wp2_with fail
  refine (HM.out _ (HT.out.keep (B1.out))).mono ?_
  rintro e w2 ⟨rfl, hb2⟩
  have B2 := hide (next (B1.out) hb2)
  replace cr := hide (cr.out.keep hb2)
  replace C0 := hide (C0.out.keep hb2)
  replace C1 := hide (C1.out.keep hb2)
  replace C2 := hide (C2.out.keep hb2)
  replace C3 := hide (C3.out.keep hb2)
  go_wp2_with fail
  refine (HL.out _ (HT.out.keep (B2.out))).mono ?_
  rintro e w3 ⟨rfl, hb3⟩
  have B3 := hide (next (B2.out) hb3)
  replace cr := hide (cr.out.keep hb3)
  replace C0 := hide (C0.out.keep hb3)
  replace C1 := hide (C1.out.keep hb3)
  replace C2 := hide (C2.out.keep hb3)
  replace C3 := hide (C3.out.keep hb3)
  go_wp2_with fail
  refine (chained3 _ a y3.t (y0.t.extract (a.size + m.size) y0.t.size) hl).mono ?_
  rintro e w4 ⟨rfl, hb4⟩
  have B4 := hide (next (step (B3.out) _) hb4)
  replace cr := hide ((cr.out.alloc _).keep hb4)
  replace C0 := hide ((C0.out.keep ((Below.refl _ _).alloc (Nat.le_refl _) _)).keep hb4)
  replace C1 := hide ((C1.out.keep ((Below.refl _ _).alloc (Nat.le_refl _) _)).keep hb4)
  replace C2 := hide ((C2.out.keep ((Below.refl _ _).alloc (Nat.le_refl _) _)).keep hb4)
  replace C3 := hide ((C3.out.keep ((Below.refl _ _).alloc (Nat.le_refl _) _)).keep hb4)
  have cru30 := cr.out.1.1
  have cru31 := cr.out.1.2.1
  have cru32 := cr.out.1.2.2
  have cru3f := cr.out.2
  have Bq2 := hide (below_put3 (b := w.heap.size) (B4.out) (by omega) (.int .i64 (chV (cat3 a y3.t (y0.t.extract (a.size + m.size) y0.t.size))).k) (.int .i64 (chV (cat3 a y3.t (y0.t.extract (a.size + m.size) y0.t.size))).i) (.string (chV (cat3 a y3.t (y0.t.extract (a.size + m.size) y0.t.size))).t))
  replace cr := hide (cr.out.put (.int .i64 (chV (cat3 a y3.t (y0.t.extract (a.size + m.size) y0.t.size))).k) (.int .i64 (chV (cat3 a y3.t (y0.t.extract (a.size + m.size) y0.t.size))).i) (.string (chV (cat3 a y3.t (y0.t.extract (a.size + m.size) y0.t.size))).t))
  obtain ⟨wq2, hwq2⟩ : ∃ wq2, put3 (w4) (w.heap.size) (.int .i64 (chV (cat3 a y3.t (y0.t.extract (a.size + m.size) y0.t.size))).k) (.int .i64 (chV (cat3 a y3.t (y0.t.extract (a.size + m.size) y0.t.size))).i) (.string (chV (cat3 a y3.t (y0.t.extract (a.size + m.size) y0.t.size))).t) = wq2 := ⟨_, rfl⟩
  rw [hwq2] at Bq2 cr
  unfold put3 at hwq2
  have cru40 := cr.out.1.1
  have cru41 := cr.out.1.2.1
  have cru42 := cr.out.1.2.2
  go_wp2_with fail
  refine bodyPost_ret (by simp [results, Tryz.results74, go_sem, cru40, cru41, cru42]; try rfl) rfl ?_
  exact ⟨rfl, Bq2.out⟩
end Go.Proofs.YtgnmkhjilecdhaaGreatDoor
