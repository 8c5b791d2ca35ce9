/- tree.hasSameFields: by the first field that is unlike. tree.Same: two trees, node by node, with slices.EqualFunc between. More small facts: a whole struct loaded under a guard that holds. -/
import Derived.Test.YtdlomdbmmhjppaaGreatDoorTrJ
namespace Go.Proofs.YtdlomdbmmhjppaaGreatDoor.T9
open Go.RowKit Go.Sort
set_option linter.unusedVariables false

theorem tl_ne {t t' : ByteArray} (h : ¬ t = t') : (t.toList == t'.toList) = false := by
  rw [beq_eq_false_iff_ne, ByteArray.toList_eq, ByteArray.toList_eq]
  intro e
  exact h (ByteArray.ext (Array.ext' e))
def rfB (a b : Rf) : Bool := decide (a.row = b.row) && decide (a.col = b.col) && decide (a.pr = b.pr) && decide (a.pc = b.pc)
/-- The same but for the kids? -/
def ndB (a b : Nd) : Bool := decide (a.kind = b.kind) && decide (a.op = b.op) && decide (a.num = b.num) && rfB a.ref b.ref && rfB a.to b.to && decide (a.fn = b.fn) && decide (a.text = b.text)
set_option maxHeartbeats 1000000 in
set_option maxRecDepth 100000 in
theorem fields_0 (n1 n2 : Nd) (s1 s2 : Value) (w : World)  (h0 : ¬ n1.kind = n2.kind) :
    Calls Tryz.prog 48 #[exV n1 s1, exV n2 s2] w fun e w' => e = .returned (.bool (ndB n1 n2)) ∧ Below w.heap.size w w' := by
  have k0 : (n1.kind == n2.kind) = false := by simp [h0]
  have hr : ndB n1 n2 = false := by simp [ndB, rfB, h0]
  have hr := hide hr
  have A := at14 n1 s1
  have B := at14 n2 s2
  obtain ⟨a0, a1, a2, a3, a4, a5, a6, a7, a8, a9, a10, a11, a12, a13⟩ := A
  obtain ⟨b0, b1, b2, b3, b4, b5, b6, b7, b8, b9, b10, b11, b12, b13⟩ := B
  go_enter Tryz.func48, Tryz.ntmps48
  go_wp2_with fail
  go_ret
  exact ⟨by rw [hr.out]; rfl, step (step (Below.refl _ w) _) _⟩
set_option maxHeartbeats 1000000 in
set_option maxRecDepth 100000 in
theorem fields_1 (n1 n2 : Nd) (s1 s2 : Value) (w : World) (h0 : n1.kind = n2.kind) (h1 : ¬ n1.op = n2.op) :
    Calls Tryz.prog 48 #[exV n1 s1, exV n2 s2] w fun e w' => e = .returned (.bool (ndB n1 n2)) ∧ Below w.heap.size w w' := by
  have k0 : (n1.kind == n2.kind) = true := by simp [h0]
  have k1 : (n1.op == n2.op) = false := by simp [h1]
  have hr : ndB n1 n2 = false := by simp [ndB, rfB, h0, h1]
  have hr := hide hr
  have A := at14 n1 s1
  have B := at14 n2 s2
  obtain ⟨a0, a1, a2, a3, a4, a5, a6, a7, a8, a9, a10, a11, a12, a13⟩ := A
  obtain ⟨b0, b1, b2, b3, b4, b5, b6, b7, b8, b9, b10, b11, b12, b13⟩ := B
  go_enter Tryz.func48, Tryz.ntmps48
  go_wp2_with fail
  go_ret
  exact ⟨by rw [hr.out]; rfl, step (step (Below.refl _ w) _) _⟩
set_option maxHeartbeats 1000000 in
set_option maxRecDepth 100000 in
theorem fields_2 (n1 n2 : Nd) (s1 s2 : Value) (w : World) (h0 : n1.kind = n2.kind) (h1 : n1.op = n2.op) (h2 : ¬ n1.num = n2.num) :
    Calls Tryz.prog 48 #[exV n1 s1, exV n2 s2] w fun e w' => e = .returned (.bool (ndB n1 n2)) ∧ Below w.heap.size w w' := by
  have k0 : (n1.kind == n2.kind) = true := by simp [h0]
  have k1 : (n1.op == n2.op) = true := by simp [h1]
  have k2 : (n1.num == n2.num) = false := by simp [h2]
  have hr : ndB n1 n2 = false := by simp [ndB, rfB, h0, h1, h2]
  have hr := hide hr
  have A := at14 n1 s1
  have B := at14 n2 s2
  obtain ⟨a0, a1, a2, a3, a4, a5, a6, a7, a8, a9, a10, a11, a12, a13⟩ := A
  obtain ⟨b0, b1, b2, b3, b4, b5, b6, b7, b8, b9, b10, b11, b12, b13⟩ := B
  go_enter Tryz.func48, Tryz.ntmps48
  go_wp2_with fail
  go_ret
  exact ⟨by rw [hr.out]; rfl, step (step (Below.refl _ w) _) _⟩
set_option maxHeartbeats 1000000 in
set_option maxRecDepth 100000 in
theorem fields_3 (n1 n2 : Nd) (s1 s2 : Value) (w : World) (h0 : n1.kind = n2.kind) (h1 : n1.op = n2.op) (h2 : n1.num = n2.num) (h3 : ¬ n1.ref.row = n2.ref.row) :
    Calls Tryz.prog 48 #[exV n1 s1, exV n2 s2] w fun e w' => e = .returned (.bool (ndB n1 n2)) ∧ Below w.heap.size w w' := by
  have k0 : (n1.kind == n2.kind) = true := by simp [h0]
  have k1 : (n1.op == n2.op) = true := by simp [h1]
  have k2 : (n1.num == n2.num) = true := by simp [h2]
  have k3 : (n1.ref.row == n2.ref.row) = false := by simp [h3]
  have hr : ndB n1 n2 = false := by simp [ndB, rfB, h0, h1, h2, h3]
  have hr := hide hr
  have A := at14 n1 s1
  have B := at14 n2 s2
  obtain ⟨a0, a1, a2, a3, a4, a5, a6, a7, a8, a9, a10, a11, a12, a13⟩ := A
  obtain ⟨b0, b1, b2, b3, b4, b5, b6, b7, b8, b9, b10, b11, b12, b13⟩ := B
  go_enter Tryz.func48, Tryz.ntmps48
  go_wp2_with fail
  go_ret
  exact ⟨by rw [hr.out]; rfl, step (step (Below.refl _ w) _) _⟩
set_option maxHeartbeats 1000000 in
set_option maxRecDepth 100000 in
theorem fields_4 (n1 n2 : Nd) (s1 s2 : Value) (w : World) (h0 : n1.kind = n2.kind) (h1 : n1.op = n2.op) (h2 : n1.num = n2.num) (h3 : n1.ref.row = n2.ref.row) (h4 : ¬ n1.ref.col = n2.ref.col) :
    Calls Tryz.prog 48 #[exV n1 s1, exV n2 s2] w fun e w' => e = .returned (.bool (ndB n1 n2)) ∧ Below w.heap.size w w' := by
  have k0 : (n1.kind == n2.kind) = true := by simp [h0]
  have k1 : (n1.op == n2.op) = true := by simp [h1]
  have k2 : (n1.num == n2.num) = true := by simp [h2]
  have k3 : (n1.ref.row == n2.ref.row) = true := by simp [h3]
  have k4 : (n1.ref.col == n2.ref.col) = false := by simp [h4]
  have hr : ndB n1 n2 = false := by simp [ndB, rfB, h0, h1, h2, h3, h4]
  have hr := hide hr
  have A := at14 n1 s1
  have B := at14 n2 s2
  obtain ⟨a0, a1, a2, a3, a4, a5, a6, a7, a8, a9, a10, a11, a12, a13⟩ := A
  obtain ⟨b0, b1, b2, b3, b4, b5, b6, b7, b8, b9, b10, b11, b12, b13⟩ := B
  go_enter Tryz.func48, Tryz.ntmps48
  go_wp2_with fail
  go_ret
  exact ⟨by rw [hr.out]; rfl, step (step (Below.refl _ w) _) _⟩
set_option maxHeartbeats 1000000 in
set_option maxRecDepth 100000 in
theorem fields_5 (n1 n2 : Nd) (s1 s2 : Value) (w : World) (h0 : n1.kind = n2.kind) (h1 : n1.op = n2.op) (h2 : n1.num = n2.num) (h3 : n1.ref.row = n2.ref.row) (h4 : n1.ref.col = n2.ref.col) (h5 : ¬ n1.ref.pr = n2.ref.pr) :
    Calls Tryz.prog 48 #[exV n1 s1, exV n2 s2] w fun e w' => e = .returned (.bool (ndB n1 n2)) ∧ Below w.heap.size w w' := by
  have k0 : (n1.kind == n2.kind) = true := by simp [h0]
  have k1 : (n1.op == n2.op) = true := by simp [h1]
  have k2 : (n1.num == n2.num) = true := by simp [h2]
  have k3 : (n1.ref.row == n2.ref.row) = true := by simp [h3]
  have k4 : (n1.ref.col == n2.ref.col) = true := by simp [h4]
  have k5 : (n1.ref.pr == n2.ref.pr) = false := by simp [h5]
  have hr : ndB n1 n2 = false := by simp [ndB, rfB, h0, h1, h2, h3, h4, h5]
  have hr := hide hr
  have A := at14 n1 s1
  have B := at14 n2 s2
  obtain ⟨a0, a1, a2, a3, a4, a5, a6, a7, a8, a9, a10, a11, a12, a13⟩ := A
  obtain ⟨b0, b1, b2, b3, b4, b5, b6, b7, b8, b9, b10, b11, b12, b13⟩ := B
  go_enter Tryz.func48, Tryz.ntmps48
  go_wp2_with fail
  go_ret
  exact ⟨by rw [hr.out]; rfl, step (step (Below.refl _ w) _) _⟩
set_option maxHeartbeats 1000000 in
set_option maxRecDepth 100000 in
theorem fields_6 (n1 n2 : Nd) (s1 s2 : Value) (w : World) (h0 : n1.kind = n2.kind) (h1 : n1.op = n2.op) (h2 : n1.num = n2.num) (h3 : n1.ref.row = n2.ref.row) (h4 : n1.ref.col = n2.ref.col) (h5 : n1.ref.pr = n2.ref.pr) (h6 : ¬ n1.ref.pc = n2.ref.pc) :
    Calls Tryz.prog 48 #[exV n1 s1, exV n2 s2] w fun e w' => e = .returned (.bool (ndB n1 n2)) ∧ Below w.heap.size w w' := by
  have k0 : (n1.kind == n2.kind) = true := by simp [h0]
  have k1 : (n1.op == n2.op) = true := by simp [h1]
  have k2 : (n1.num == n2.num) = true := by simp [h2]
  have k3 : (n1.ref.row == n2.ref.row) = true := by simp [h3]
  have k4 : (n1.ref.col == n2.ref.col) = true := by simp [h4]
  have k5 : (n1.ref.pr == n2.ref.pr) = true := by simp [h5]
  have k6 : (n1.ref.pc == n2.ref.pc) = false := by simp [h6]
  have hr : ndB n1 n2 = false := by simp [ndB, rfB, h0, h1, h2, h3, h4, h5, h6]
  have hr := hide hr
  have A := at14 n1 s1
  have B := at14 n2 s2
  obtain ⟨a0, a1, a2, a3, a4, a5, a6, a7, a8, a9, a10, a11, a12, a13⟩ := A
  obtain ⟨b0, b1, b2, b3, b4, b5, b6, b7, b8, b9, b10, b11, b12, b13⟩ := B
  go_enter Tryz.func48, Tryz.ntmps48
  go_wp2_with fail
  go_ret
  exact ⟨by rw [hr.out]; rfl, step (step (Below.refl _ w) _) _⟩
set_option maxHeartbeats 1000000 in
set_option maxRecDepth 100000 in
theorem fields_7 (n1 n2 : Nd) (s1 s2 : Value) (w : World) (h0 : n1.kind = n2.kind) (h1 : n1.op = n2.op) (h2 : n1.num = n2.num) (h3 : n1.ref.row = n2.ref.row) (h4 : n1.ref.col = n2.ref.col) (h5 : n1.ref.pr = n2.ref.pr) (h6 : n1.ref.pc = n2.ref.pc) (h7 : ¬ n1.to.row = n2.to.row) :
    Calls Tryz.prog 48 #[exV n1 s1, exV n2 s2] w fun e w' => e = .returned (.bool (ndB n1 n2)) ∧ Below w.heap.size w w' := by
  have k0 : (n1.kind == n2.kind) = true := by simp [h0]
  have k1 : (n1.op == n2.op) = true := by simp [h1]
  have k2 : (n1.num == n2.num) = true := by simp [h2]
  have k3 : (n1.ref.row == n2.ref.row) = true := by simp [h3]
  have k4 : (n1.ref.col == n2.ref.col) = true := by simp [h4]
  have k5 : (n1.ref.pr == n2.ref.pr) = true := by simp [h5]
  have k6 : (n1.ref.pc == n2.ref.pc) = true := by simp [h6]
  have k7 : (n1.to.row == n2.to.row) = false := by simp [h7]
  have hr : ndB n1 n2 = false := by simp [ndB, rfB, h0, h1, h2, h3, h4, h5, h6, h7]
  have hr := hide hr
  have A := at14 n1 s1
  have B := at14 n2 s2
  obtain ⟨a0, a1, a2, a3, a4, a5, a6, a7, a8, a9, a10, a11, a12, a13⟩ := A
  obtain ⟨b0, b1, b2, b3, b4, b5, b6, b7, b8, b9, b10, b11, b12, b13⟩ := B
  go_enter Tryz.func48, Tryz.ntmps48
  go_wp2_with fail
  go_ret
  exact ⟨by rw [hr.out]; rfl, step (step (Below.refl _ w) _) _⟩
set_option maxHeartbeats 1000000 in
set_option maxRecDepth 100000 in
theorem fields_8 (n1 n2 : Nd) (s1 s2 : Value) (w : World) (h0 : n1.kind = n2.kind) (h1 : n1.op = n2.op) (h2 : n1.num = n2.num) (h3 : n1.ref.row = n2.ref.row) (h4 : n1.ref.col = n2.ref.col) (h5 : n1.ref.pr = n2.ref.pr) (h6 : n1.ref.pc = n2.ref.pc) (h7 : n1.to.row = n2.to.row) (h8 : ¬ n1.to.col = n2.to.col) :
    Calls Tryz.prog 48 #[exV n1 s1, exV n2 s2] w fun e w' => e = .returned (.bool (ndB n1 n2)) ∧ Below w.heap.size w w' := by
  have k0 : (n1.kind == n2.kind) = true := by simp [h0]
  have k1 : (n1.op == n2.op) = true := by simp [h1]
  have k2 : (n1.num == n2.num) = true := by simp [h2]
  have k3 : (n1.ref.row == n2.ref.row) = true := by simp [h3]
  have k4 : (n1.ref.col == n2.ref.col) = true := by simp [h4]
  have k5 : (n1.ref.pr == n2.ref.pr) = true := by simp [h5]
  have k6 : (n1.ref.pc == n2.ref.pc) = true := by simp [h6]
  have k7 : (n1.to.row == n2.to.row) = true := by simp [h7]
  have k8 : (n1.to.col == n2.to.col) = false := by simp [h8]
  have hr : ndB n1 n2 = false := by simp [ndB, rfB, h0, h1, h2, h3, h4, h5, h6, h7, h8]
  have hr := hide hr
  have A := at14 n1 s1
  have B := at14 n2 s2
  obtain ⟨a0, a1, a2, a3, a4, a5, a6, a7, a8, a9, a10, a11, a12, a13⟩ := A
  obtain ⟨b0, b1, b2, b3, b4, b5, b6, b7, b8, b9, b10, b11, b12, b13⟩ := B
  go_enter Tryz.func48, Tryz.ntmps48
  go_wp2_with fail
  go_ret
  exact ⟨by rw [hr.out]; rfl, step (step (Below.refl _ w) _) _⟩
set_option maxHeartbeats 1000000 in
set_option maxRecDepth 100000 in
theorem fields_9 (n1 n2 : Nd) (s1 s2 : Value) (w : World) (h0 : n1.kind = n2.kind) (h1 : n1.op = n2.op) (h2 : n1.num = n2.num) (h3 : n1.ref.row = n2.ref.row) (h4 : n1.ref.col = n2.ref.col) (h5 : n1.ref.pr = n2.ref.pr) (h6 : n1.ref.pc = n2.ref.pc) (h7 : n1.to.row = n2.to.row) (h8 : n1.to.col = n2.to.col) (h9 : ¬ n1.to.pr = n2.to.pr) :
    Calls Tryz.prog 48 #[exV n1 s1, exV n2 s2] w fun e w' => e = .returned (.bool (ndB n1 n2)) ∧ Below w.heap.size w w' := by
  have k0 : (n1.kind == n2.kind) = true := by simp [h0]
  have k1 : (n1.op == n2.op) = true := by simp [h1]
  have k2 : (n1.num == n2.num) = true := by simp [h2]
  have k3 : (n1.ref.row == n2.ref.row) = true := by simp [h3]
  have k4 : (n1.ref.col == n2.ref.col) = true := by simp [h4]
  have k5 : (n1.ref.pr == n2.ref.pr) = true := by simp [h5]
  have k6 : (n1.ref.pc == n2.ref.pc) = true := by simp [h6]
  have k7 : (n1.to.row == n2.to.row) = true := by simp [h7]
  have k8 : (n1.to.col == n2.to.col) = true := by simp [h8]
  have k9 : (n1.to.pr == n2.to.pr) = false := by simp [h9]
  have hr : ndB n1 n2 = false := by simp [ndB, rfB, h0, h1, h2, h3, h4, h5, h6, h7, h8, h9]
  have hr := hide hr
  have A := at14 n1 s1
  have B := at14 n2 s2
  obtain ⟨a0, a1, a2, a3, a4, a5, a6, a7, a8, a9, a10, a11, a12, a13⟩ := A
  obtain ⟨b0, b1, b2, b3, b4, b5, b6, b7, b8, b9, b10, b11, b12, b13⟩ := B
  go_enter Tryz.func48, Tryz.ntmps48
  go_wp2_with fail
  go_ret
  exact ⟨by rw [hr.out]; rfl, step (step (Below.refl _ w) _) _⟩
set_option maxHeartbeats 1000000 in
set_option maxRecDepth 100000 in
theorem fields_10 (n1 n2 : Nd) (s1 s2 : Value) (w : World) (h0 : n1.kind = n2.kind) (h1 : n1.op = n2.op) (h2 : n1.num = n2.num) (h3 : n1.ref.row = n2.ref.row) (h4 : n1.ref.col = n2.ref.col) (h5 : n1.ref.pr = n2.ref.pr) (h6 : n1.ref.pc = n2.ref.pc) (h7 : n1.to.row = n2.to.row) (h8 : n1.to.col = n2.to.col) (h9 : n1.to.pr = n2.to.pr) (h10 : ¬ n1.to.pc = n2.to.pc) :
    Calls Tryz.prog 48 #[exV n1 s1, exV n2 s2] w fun e w' => e = .returned (.bool (ndB n1 n2)) ∧ Below w.heap.size w w' := by
  have k0 : (n1.kind == n2.kind) = true := by simp [h0]
  have k1 : (n1.op == n2.op) = true := by simp [h1]
  have k2 : (n1.num == n2.num) = true := by simp [h2]
  have k3 : (n1.ref.row == n2.ref.row) = true := by simp [h3]
  have k4 : (n1.ref.col == n2.ref.col) = true := by simp [h4]
  have k5 : (n1.ref.pr == n2.ref.pr) = true := by simp [h5]
  have k6 : (n1.ref.pc == n2.ref.pc) = true := by simp [h6]
  have k7 : (n1.to.row == n2.to.row) = true := by simp [h7]
  have k8 : (n1.to.col == n2.to.col) = true := by simp [h8]
  have k9 : (n1.to.pr == n2.to.pr) = true := by simp [h9]
  have k10 : (n1.to.pc == n2.to.pc) = false := by simp [h10]
  have hr : ndB n1 n2 = false := by simp [ndB, rfB, h0, h1, h2, h3, h4, h5, h6, h7, h8, h9, h10]
  have hr := hide hr
  have A := at14 n1 s1
  have B := at14 n2 s2
  obtain ⟨a0, a1, a2, a3, a4, a5, a6, a7, a8, a9, a10, a11, a12, a13⟩ := A
  obtain ⟨b0, b1, b2, b3, b4, b5, b6, b7, b8, b9, b10, b11, b12, b13⟩ := B
  go_enter Tryz.func48, Tryz.ntmps48
  go_wp2_with fail
  go_ret
  exact ⟨by rw [hr.out]; rfl, step (step (Below.refl _ w) _) _⟩
set_option maxHeartbeats 1000000 in
set_option maxRecDepth 100000 in
theorem fields_11 (n1 n2 : Nd) (s1 s2 : Value) (w : World) (h0 : n1.kind = n2.kind) (h1 : n1.op = n2.op) (h2 : n1.num = n2.num) (h3 : n1.ref.row = n2.ref.row) (h4 : n1.ref.col = n2.ref.col) (h5 : n1.ref.pr = n2.ref.pr) (h6 : n1.ref.pc = n2.ref.pc) (h7 : n1.to.row = n2.to.row) (h8 : n1.to.col = n2.to.col) (h9 : n1.to.pr = n2.to.pr) (h10 : n1.to.pc = n2.to.pc) (h11 : ¬ n1.fn = n2.fn) :
    Calls Tryz.prog 48 #[exV n1 s1, exV n2 s2] w fun e w' => e = .returned (.bool (ndB n1 n2)) ∧ Below w.heap.size w w' := by
  have k0 : (n1.kind == n2.kind) = true := by simp [h0]
  have k1 : (n1.op == n2.op) = true := by simp [h1]
  have k2 : (n1.num == n2.num) = true := by simp [h2]
  have k3 : (n1.ref.row == n2.ref.row) = true := by simp [h3]
  have k4 : (n1.ref.col == n2.ref.col) = true := by simp [h4]
  have k5 : (n1.ref.pr == n2.ref.pr) = true := by simp [h5]
  have k6 : (n1.ref.pc == n2.ref.pc) = true := by simp [h6]
  have k7 : (n1.to.row == n2.to.row) = true := by simp [h7]
  have k8 : (n1.to.col == n2.to.col) = true := by simp [h8]
  have k9 : (n1.to.pr == n2.to.pr) = true := by simp [h9]
  have k10 : (n1.to.pc == n2.to.pc) = true := by simp [h10]
  have k11 : (n1.fn == n2.fn) = false := by simp [h11]
  have hr : ndB n1 n2 = false := by simp [ndB, rfB, h0, h1, h2, h3, h4, h5, h6, h7, h8, h9, h10, h11]
  have hr := hide hr
  have A := at14 n1 s1
  have B := at14 n2 s2
  obtain ⟨a0, a1, a2, a3, a4, a5, a6, a7, a8, a9, a10, a11, a12, a13⟩ := A
  obtain ⟨b0, b1, b2, b3, b4, b5, b6, b7, b8, b9, b10, b11, b12, b13⟩ := B
  go_enter Tryz.func48, Tryz.ntmps48
  go_wp2_with fail
  go_ret
  exact ⟨by rw [hr.out]; rfl, step (step (Below.refl _ w) _) _⟩
set_option maxHeartbeats 1000000 in
set_option maxRecDepth 100000 in
theorem fields_12 (n1 n2 : Nd) (s1 s2 : Value) (w : World) (h0 : n1.kind = n2.kind) (h1 : n1.op = n2.op) (h2 : n1.num = n2.num) (h3 : n1.ref.row = n2.ref.row) (h4 : n1.ref.col = n2.ref.col) (h5 : n1.ref.pr = n2.ref.pr) (h6 : n1.ref.pc = n2.ref.pc) (h7 : n1.to.row = n2.to.row) (h8 : n1.to.col = n2.to.col) (h9 : n1.to.pr = n2.to.pr) (h10 : n1.to.pc = n2.to.pc) (h11 : n1.fn = n2.fn) (h12 : ¬ n1.text = n2.text) :
    Calls Tryz.prog 48 #[exV n1 s1, exV n2 s2] w fun e w' => e = .returned (.bool (ndB n1 n2)) ∧ Below w.heap.size w w' := by
  have k0 : (n1.kind == n2.kind) = true := by simp [h0]
  have k1 : (n1.op == n2.op) = true := by simp [h1]
  have k2 : (n1.num == n2.num) = true := by simp [h2]
  have k3 : (n1.ref.row == n2.ref.row) = true := by simp [h3]
  have k4 : (n1.ref.col == n2.ref.col) = true := by simp [h4]
  have k5 : (n1.ref.pr == n2.ref.pr) = true := by simp [h5]
  have k6 : (n1.ref.pc == n2.ref.pc) = true := by simp [h6]
  have k7 : (n1.to.row == n2.to.row) = true := by simp [h7]
  have k8 : (n1.to.col == n2.to.col) = true := by simp [h8]
  have k9 : (n1.to.pr == n2.to.pr) = true := by simp [h9]
  have k10 : (n1.to.pc == n2.to.pc) = true := by simp [h10]
  have k11 : (n1.fn == n2.fn) = true := by simp [h11]
  have k12 : (n1.text.toList == n2.text.toList) = false := tl_ne h12
  have hr : ndB n1 n2 = false := by simp [ndB, rfB, h0, h1, h2, h3, h4, h5, h6, h7, h8, h9, h10, h11, h12]
  have hr := hide hr
  have A := at14 n1 s1
  have B := at14 n2 s2
  obtain ⟨a0, a1, a2, a3, a4, a5, a6, a7, a8, a9, a10, a11, a12, a13⟩ := A
  obtain ⟨b0, b1, b2, b3, b4, b5, b6, b7, b8, b9, b10, b11, b12, b13⟩ := B
  go_enter Tryz.func48, Tryz.ntmps48
  go_wp2_with fail
  go_ret
  exact ⟨by rw [hr.out]; rfl, step (step (Below.refl _ w) _) _⟩
set_option maxHeartbeats 1000000 in
set_option maxRecDepth 100000 in
theorem fields_13 (n1 n2 : Nd) (s1 s2 : Value) (w : World) (h0 : n1.kind = n2.kind) (h1 : n1.op = n2.op) (h2 : n1.num = n2.num) (h3 : n1.ref.row = n2.ref.row) (h4 : n1.ref.col = n2.ref.col) (h5 : n1.ref.pr = n2.ref.pr) (h6 : n1.ref.pc = n2.ref.pc) (h7 : n1.to.row = n2.to.row) (h8 : n1.to.col = n2.to.col) (h9 : n1.to.pr = n2.to.pr) (h10 : n1.to.pc = n2.to.pc) (h11 : n1.fn = n2.fn) (h12 : n1.text = n2.text) :
    Calls Tryz.prog 48 #[exV n1 s1, exV n2 s2] w fun e w' => e = .returned (.bool (ndB n1 n2)) ∧ Below w.heap.size w w' := by
  have k0 : (n1.kind == n2.kind) = true := by simp [h0]
  have k1 : (n1.op == n2.op) = true := by simp [h1]
  have k2 : (n1.num == n2.num) = true := by simp [h2]
  have k3 : (n1.ref.row == n2.ref.row) = true := by simp [h3]
  have k4 : (n1.ref.col == n2.ref.col) = true := by simp [h4]
  have k5 : (n1.ref.pr == n2.ref.pr) = true := by simp [h5]
  have k6 : (n1.ref.pc == n2.ref.pc) = true := by simp [h6]
  have k7 : (n1.to.row == n2.to.row) = true := by simp [h7]
  have k8 : (n1.to.col == n2.to.col) = true := by simp [h8]
  have k9 : (n1.to.pr == n2.to.pr) = true := by simp [h9]
  have k10 : (n1.to.pc == n2.to.pc) = true := by simp [h10]
  have k11 : (n1.fn == n2.fn) = true := by simp [h11]
  have k12 : (n1.text.toList == n2.text.toList) = true := by rw [h12]; simp
  have hr : ndB n1 n2 = true := by simp [ndB, rfB, h0, h1, h2, h3, h4, h5, h6, h7, h8, h9, h10, h11, h12]
  have hr := hide hr
  have A := at14 n1 s1
  have B := at14 n2 s2
  obtain ⟨a0, a1, a2, a3, a4, a5, a6, a7, a8, a9, a10, a11, a12, a13⟩ := A
  obtain ⟨b0, b1, b2, b3, b4, b5, b6, b7, b8, b9, b10, b11, b12, b13⟩ := B
  go_enter Tryz.func48, Tryz.ntmps48
  go_wp2_with fail
  go_ret
  exact ⟨by rw [hr.out]; rfl, step (step (Below.refl _ w) _) _⟩
theorem fields_any (n1 n2 : Nd) (s1 s2 : Value) (w : World) :
    Calls Tryz.prog 48 #[exV n1 s1, exV n2 s2] w fun e w' => e = .returned (.bool (ndB n1 n2)) ∧ Below w.heap.size w w' := by
  by_cases h0 : n1.kind = n2.kind
  case neg => exact fields_0 n1 n2 s1 s2 w h0
  by_cases h1 : n1.op = n2.op
  case neg => exact fields_1 n1 n2 s1 s2 w h0 h1
  by_cases h2 : n1.num = n2.num
  case neg => exact fields_2 n1 n2 s1 s2 w h0 h1 h2
  by_cases h3 : n1.ref.row = n2.ref.row
  case neg => exact fields_3 n1 n2 s1 s2 w h0 h1 h2 h3
  by_cases h4 : n1.ref.col = n2.ref.col
  case neg => exact fields_4 n1 n2 s1 s2 w h0 h1 h2 h3 h4
  by_cases h5 : n1.ref.pr = n2.ref.pr
  case neg => exact fields_5 n1 n2 s1 s2 w h0 h1 h2 h3 h4 h5
  by_cases h6 : n1.ref.pc = n2.ref.pc
  case neg => exact fields_6 n1 n2 s1 s2 w h0 h1 h2 h3 h4 h5 h6
  by_cases h7 : n1.to.row = n2.to.row
  case neg => exact fields_7 n1 n2 s1 s2 w h0 h1 h2 h3 h4 h5 h6 h7
  by_cases h8 : n1.to.col = n2.to.col
  case neg => exact fields_8 n1 n2 s1 s2 w h0 h1 h2 h3 h4 h5 h6 h7 h8
  by_cases h9 : n1.to.pr = n2.to.pr
  case neg => exact fields_9 n1 n2 s1 s2 w h0 h1 h2 h3 h4 h5 h6 h7 h8 h9
  by_cases h10 : n1.to.pc = n2.to.pc
  case neg => exact fields_10 n1 n2 s1 s2 w h0 h1 h2 h3 h4 h5 h6 h7 h8 h9 h10
  by_cases h11 : n1.fn = n2.fn
  case neg => exact fields_11 n1 n2 s1 s2 w h0 h1 h2 h3 h4 h5 h6 h7 h8 h9 h10 h11
  by_cases h12 : n1.text = n2.text
  case neg => exact fields_12 n1 n2 s1 s2 w h0 h1 h2 h3 h4 h5 h6 h7 h8 h9 h10 h11 h12
  exact fields_13 n1 n2 s1 s2 w h0 h1 h2 h3 h4 h5 h6 h7 h8 h9 h10 h11 h12
end Go.Proofs.YtdlomdbmmhjppaaGreatDoor.T9
namespace Go.Proofs.YtdlomdbmmhjppaaGreatDoor.T9
open Go.RowKit Go.Sort
set_option linter.unusedVariables false

mutual
/-- Are two trees the same? -/
def sameE : Ex → Ex → Bool
  | .mk n ks, t => ndB n t.nd && sameL ks t.kids
def sameL : List Ex → List Ex → Bool
  | [], l => l.isEmpty
  | k :: r, l => match l with | [] => false | x :: y => sameE k x && sameL r y
end
theorem sameL_len : ∀ (ks ls : List Ex), ks.length ≠ ls.length → sameL ks ls = false
  | [], [], h => absurd rfl h
  | [], x :: y, _ => by rw [sameL]; rfl
  | k :: r, [], _ => by rw [sameL]
  | k :: r, x :: y, h => by rw [sameL]; simp only [sameL_len r y (by simpa using h), Bool.and_false]
theorem sameL_at (ks ls : List Ex) (i : Nat) (h1 : i < ks.length) (h2 : i < ls.length) : sameL (ks.drop i) (ls.drop i) = (sameE ks[i] ls[i] && sameL (ks.drop (i + 1)) (ls.drop (i + 1))) := by
  rw [List.drop_eq_getElem_cons h1, List.drop_eq_getElem_cons h2, sameL]
theorem sameL_end (ks ls : List Ex) (h : ks.length = ls.length) : sameL (ks.drop ks.length) (ls.drop ks.length) = true := by
  rw [List.drop_length, h, List.drop_length, sameL]; rfl
/-- Where the closure lies. -/
abbrev isV (B : Nat) : Value := .func (.func 47) #[] #[.pointer (some ⟨B, 0, none⟩)]
abbrev IsBox (B : Nat) (w : World) : Prop := Blk w B #[isV B] 36
abbrev SameIs (B : Nat) (t : Ex) : Prop := ∀ (u : Ex) (v1 v2 : Value) (w : World), Tree w v1 t → Tree w v2 u → IsBox B w →
  Calls Tryz.prog 47 #[v1, v2, .pointer (some ⟨B, 0, none⟩)] w fun e w' => e = .returned (.bool (sameE t u)) ∧ Below w.heap.size w w'
/-- A list of kids in memory. -/
structure KidsAt (w : World) (a : Option Addr) (len : Nat) (ks : List Ex) : Prop where
  lq : len = ks.length
  small : len ≤ 4611686018427387904
  at' : len = 0 ∨ ∃ b o, a = some ⟨b, o, none⟩ ∧ b < w.heap.size ∧ Kids (· < w.heap.size) w b o ks
theorem KidsAt.step {w w' : World} {a : Option Addr} {len : Nat} {ks : List Ex} (h : KidsAt w a len ks) (hb : Below w.heap.size w w') : KidsAt w' a len ks := by
  refine ⟨h.lq, h.small, ?_⟩
  rcases h.at' with h | ⟨b, o, ha, hlt, hk⟩
  · exact .inl h
  · refine .inr ⟨b, o, ha, Nat.lt_of_lt_of_le hlt hb.size, Kids.of fun i hi => ?_⟩
    obtain ⟨cs, h1, h2⟩ := hk.get i hi
    exact ⟨cs, h1.move (fun k hk => ⟨Nat.lt_of_lt_of_le hk hb.size, hb.block k hk⟩), range_of_block h2 (hb.block b hlt)⟩
theorem Tree.kidsAt {w : World} {nd : Nd} {ks : List Ex} {a : Option Addr} {len cap : Nat} (h : Tree w (exV nd (.slice a len cap)) (.mk nd ks)) : KidsAt w a len ks := by
  obtain ⟨a', len', cap', hv, h1, h2, _, h3⟩ := h.un
  have : exC nd (.slice a len cap) = exC nd (.slice a' len' cap') := by simpa [exV] using hv
  have := congrArg (fun x : Array Value => x[13]?) this
  simp only [(at14 _ _).c13, Option.some.injEq, Value.slice.injEq] at this
  obtain ⟨rfl, rfl, rfl⟩ := this
  exact ⟨h1.out, h2.out, h3.out⟩
theorem KidsAt.get {w : World} {a : Option Addr} {len : Nat} {ks : List Ex} (h : KidsAt w a len ks) {i : Nat} (hi : i < len) : ∃ b o, a = some ⟨b, o, none⟩ ∧ ∃ (hk : i < ks.length) (aa : Option Addr) (l c : Nat), Tree w (exV ks[i].nd (.slice aa l c)) ks[i] ∧ w.rangeAt b (o + i * 14) (exC ks[i].nd (.slice aa l c)).toList := by
  rcases h.at' with h' | ⟨b, o, ha, hlt, hk⟩
  · omega
  · have hi' : i < ks.length := by have := h.lq; omega
    obtain ⟨cs, h1, h2⟩ := hk.get i hi'
    obtain ⟨aa, l, c, rfl⟩ := h1.cs
    exact ⟨b, o, ha, hi', aa, l, c, h1, h2⟩
set_option maxHeartbeats 2000000 in
set_option maxRecDepth 100000 in
theorem equal_any (B : Nat) (ks ls : List Ex) (ih : ∀ k ∈ ks, SameIs B k) (a1 a2 : Option Addr) (len1 len2 cap1 cap2 : Nat) (w : World) (h1 : KidsAt w a1 len1 ks) (h2 : KidsAt w a2 len2 ls) (hB : IsBox B w) :
    Calls Tryz.prog 49 #[.slice a1 len1 cap1, .slice a2 len2 cap2, isV B] w fun e w' => e = .returned (.bool (sameL ks ls)) ∧ Below w.heap.size w w' := by
  have l1 := hide h1.lq
  have l2 := hide h2.lq
  have s1 := hide h1.small
  replace h1 := hide h1
  replace h2 := hide h2
  replace hB := hide hB
  replace ih := hide ih
  by_cases hl : len1 = len2
  · have p0 : ((len1 : Int) != (len2 : Int)) = false := by simp [hl]
    replace hl := hide hl
    go_enter Tryz.func49, Tryz.ntmps49
    go_wp2_with fail
    go_loopw [17] (fun i wr => ∃ (k : Nat), k ≤ len1 ∧ i = .int .i64 k ∧ Hid (Below w.heap.size w wr) ∧ Hid (sameL ks ls = sameL (ks.drop k) (ls.drop k))) (fun i _ => len1 - (intOf i).toNat)
    case atStart => exact ⟨0, Nat.zero_le _, rfl, Below.refl _ _, rfl⟩
    case round =>
      obtain ⟨k, hkl, rfl, HB, HL⟩ := hrel
      by_cases hlt : k < len1
      · have q0 : (k : Int) < (len1 : Int) := by omega
        have q1 : (k : Int) < (len2 : Int) := by have := hl.out; omega
        obtain ⟨b1, o1, rfl, hk1, aa1, ll1, cc1, t1, r1⟩ := h1.out.get hlt
        obtain ⟨b2, o2, rfl, hk2, aa2, ll2, cc2, t2, r2⟩ := h2.out.get (i := k) (by have := hl.out; omega)
        have hat := sameL_at ks ls k hk1 hk2
        have ihk := ih.out _ (List.getElem_mem hk1)
        generalize ks[k] = tk at *
        generalize ls[k] = uk at *
        have R1 := range_of_block r1 (HB.out.block b1 (World.block_lt_of_cell? w ⟨b1, _, none⟩ (r1 0 _ rfl)))
        have R2 := World.rangeAt_alloc (range_of_block r2 (HB.out.block b2 (World.block_lt_of_cell? w ⟨b2, _, none⟩ (r2 0 _ rfl)))) (exO tk.nd (.slice aa1 ll1 cc1))
        have bel : Below w.heap.size w ((wr.alloc (exO tk.nd (.slice aa1 ll1 cc1))).alloc (exO uk.nd (.slice aa2 ll2 cc2))) := step (step HB.out _) _
        have IH := hide (ihk uk _ _ _ (t1.step bel) (t2.step bel) (hB.out.keep bel))
        have L1 := hide ((Blk.new wr (exC tk.nd (.slice aa1 ll1 cc1)) 30).alloc (exO uk.nd (.slice aa2 ll2 cc2)))
        have L2 := hide (Blk.new1 wr (exO tk.nd (.slice aa1 ll1 cc1)) (exC uk.nd (.slice aa2 ll2 cc2)) 30)
        replace bel := hide bel
        replace hat := hide hat
        have wk := IntWalk.wrap64_in ((k : Int) + 1) ⟨by omega, by have := s1.out; omega⟩
        clear t1 t2 r1 r2 ihk
        go_wp2_with (first
          | (refine wpList_load_at rfl 30 _ rfl _ _ rfl _ _ R1 Tryz.underlying30 rfl (exC_info _ _) ?_)
          | (refine wpList_load_at rfl 30 _ rfl _ _ rfl _ _ R2 Tryz.underlying30 rfl (exC_info _ _) ?_)
          | (refine wpList_load_blk rfl 30 _ rfl _ rfl _ L1.out _ Tryz.underlying30 rfl (exC_info _ _) ?_)
          | (refine wpList_load_blk rfl 30 _ rfl _ rfl _ L2.out _ Tryz.underlying30 rfl (exC_info _ _) ?_)
          | (refine wpList_store_new rfl 30 _ _ rfl _ (exC tk.nd (.slice aa1 ll1 cc1)) _ rfl rfl rfl (exC_info _ _) (by rfl) (exC_one _ _ _ _) ?_)
          | (refine wpList_store_new rfl 30 _ _ rfl _ (exC uk.nd (.slice aa2 ll2 cc2)) _ rfl (by simp) rfl (exC_info _ _) (by rfl) (exC_one _ _ _ _) ?_)
          | (go_at_call 47; refine (IH.out).mono ?_; rintro e w2 ⟨rfl, hb2⟩; have hb2 := hide (next bel.out hb2); cases hq2 : sameE tk uk))
        case roundEnd =>
          refine ⟨⟨k + 1, hlt, by rw [wk]; rfl, hb2, hide (by rw [HL.out, hat.out, hq2]; rfl)⟩, ?_⟩
          rw [wk]
          show len1 - ((k : Int) + 1).toNat < len1 - (k : Int).toNat
          omega
        · go_ret
          have hh := HL.out.trans hat.out
          rw [hq2] at hh
          exact ⟨by rw [hh]; rfl, hb2.out⟩
      · obtain rfl : k = len1 := by omega
        go_wp2_with fail
        go_ret
        have hh := HL.out
        rw [l1.out, sameL_end _ _ (by rw [← l1.out, ← l2.out]; exact hl.out)] at hh
        exact ⟨by rw [hh]; rfl, HB.out⟩
  · have p0 : ((len1 : Int) != (len2 : Int)) = true := by simp; omega
    replace hl := hide hl
    go_enter Tryz.func49, Tryz.ntmps49
    go_wp2_with fail
    go_ret
    exact ⟨by rw [sameL_len _ _ (by rw [← l1.out, ← l2.out]; exact hl.out)]; rfl, Below.refl _ _⟩
set_option maxHeartbeats 1000000 in
set_option maxRecDepth 100000 in
theorem isSame_any (B : Nat) : ∀ t, SameIs B t := by
  refine Ex.ind fun n1 ks ih => ?_
  intro u v1 v2 w t1 t2 hB
  obtain ⟨n2, ls⟩ := u
  obtain ⟨a1, len1, cap1, rfl, _, _, _, _⟩ := t1.un
  obtain ⟨a2, len2, cap2, rfl, _, _, _, _⟩ := t2.un
  have bel : Below w.heap.size w ((w.alloc (exO n1 (.slice a1 len1 cap1))).alloc (exO n2 (.slice a2 len2 cap2))) := step (step (Below.refl _ w) _) _
  have hs : sameE (.mk n1 ks) (.mk n2 ls) = (ndB n1 n2 && sameL ks ls) := by rw [sameE]; rfl
  have L1 := hide ((Blk.new w (exC n1 (.slice a1 len1 cap1)) 30).alloc (exO n2 (.slice a2 len2 cap2)))
  have L2 := hide (Blk.new1 w (exO n1 (.slice a1 len1 cap1)) (exC n2 (.slice a2 len2 cap2)) 30)
  have HF := hide (fields_any n1 n2 (.slice a1 len1 cap1) (.slice a2 len2 cap2) ((w.alloc (exO n1 (.slice a1 len1 cap1))).alloc (exO n2 (.slice a2 len2 cap2))))
  have HE := hide (equal_any B ks ls ih a1 a2 len1 len2 cap1 cap2)
  have k1 := hide t1.kidsAt
  have k2 := hide t2.kidsAt
  replace hB := hide hB
  clear t1 t2 ih
  replace bel := hide bel
  replace hs := hide hs
  cases hq : ndB n1 n2
  all_goals
    rw [hq] at HF
    go_enter Tryz.func47, Tryz.ntmps47
    go_wp2_with (first
      | (refine wpList_load_blk rfl 30 _ rfl _ rfl _ L1.out _ Tryz.underlying30 rfl (exC_info _ _) ?_)
      | (refine wpList_load_blk rfl 30 _ rfl _ rfl _ L2.out _ Tryz.underlying30 rfl (exC_info _ _) ?_)
      | (go_at_call 48; refine HF.out.mono ?_; rintro e w1 ⟨rfl, hb1⟩; have c1 := ((L1.out.keep hb1).at' 13).trans (at14 _ _).c13; have c2 := ((L2.out.keep hb1).at' 13).trans (at14 _ _).c13; replace hb1 := hide (next bel.out hb1); have c3 := (hB.out.keep hb1.out).one)
      | (go_at_call 49; refine (HE.out _ (k1.out.step hb1.out) (k2.out.step hb1.out) (hB.out.keep hb1.out)).mono ?_; rintro e w2 ⟨rfl, hb2⟩; replace hb2 := hide (next hb1.out hb2)))
    go_ret
  · exact ⟨by rw [hs.out, hq]; rfl, hb1.out⟩
  · exact ⟨by rw [hs.out, hq]; rfl, hb2.out⟩
end Go.Proofs.YtdlomdbmmhjppaaGreatDoor.T9
namespace Go.Proofs.YtdlomdbmmhjppaaGreatDoor.T9
open Go.RowKit Go.Sort
set_option linter.unusedVariables false

theorem wpList_load_blk_g {P : Program} {ops : Array Oper} {rest : List Oper} {o : Oper} {a : Act} {w : World} {Q : Exit → Act → World → Prop} (hw : Region.wanted o (yielded ops a.tmps) = true) (ty : TypeId) (x : Operand) (ho : o.op = .load ty x)
    (g : Nat) (hx : a.eval x = .pointer (some ⟨g, 0, none⟩)) (cs : Array Value) (hg : Blk w g cs ty) (d : TypeDesc)
    (hu : P.underlying ty = some d) (hd : d.isRow = true) (hi : (P.info? ty).map (·.size) = some cs.size)
    (h : wpList P ops Q rest (a.put o.dst (.agg cs)) w) : wpList P ops Q (o :: rest) a w := by
  rw [wpList, if_pos hw]
  exact .inl (wp_load_row ty x ho g hx ty cs (0, 0) d hg hu (by cases d <;> simp_all) hi h)
theorem wpList_load_at_g {P : Program} {ops : Array Oper} {rest : List Oper} {o : Oper} {a : Act} {w : World} {Q : Exit → Act → World → Prop} (hw : Region.wanted o (yielded ops a.tmps) = true) (ty : TypeId) (x : Operand) (ho : o.op = .load ty x)
    (b of : Nat) (hx : a.eval x = .pointer (some ⟨b, of, none⟩)) (cs : Array Value) (hc : w.rangeAt b of cs.toList) (d : TypeDesc)
    (hu : P.underlying ty = some d) (hd : d.isRow = true) (hi : (P.info? ty).map (·.size) = some cs.size)
    (h : wpList P ops Q rest (a.put o.dst (.agg cs)) w) : wpList P ops Q (o :: rest) a w := by
  rw [wpList, if_pos hw]
  exact .inl (wp_load_mid ty x ho b of hx cs.toList d hc hu hd (by simpa using hi) (by simpa using h))
end Go.Proofs.YtdlomdbmmhjppaaGreatDoor.T9
