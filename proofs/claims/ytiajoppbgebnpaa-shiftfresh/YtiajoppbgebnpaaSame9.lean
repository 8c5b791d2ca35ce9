/- tree.hasSameFields: by the first field that is unlike. -/
import Derived.Test.YtiajoppbgebnpaaSz9
namespace Go.Proofs.Ytiajoppbgebnpaa
open Go.RowKit Go.Sort
set_option linter.unusedVariables false

theorem tl_ne {t t' : ByteArray} (h : ¬ t = t') : (t.toList == t'.toList) = false := by
  rw [beq_eq_false_iff_ne, ByteArray.toList_eq, ByteArray.toList_eq]
  intro e
  exact h (ByteArray.ext (Array.ext' e))
def rfB (a b : Rf) : Bool := decide (a.row = b.row) && decide (a.col = b.col) && decide (a.pr = b.pr) && decide (a.pc = b.pc)
/-- The same but for the kids? -/
def ndB (a b : Nd) : Bool := decide (a.kind = b.kind) && decide (a.op = b.op) && decide (a.num = b.num) && rfB a.ref b.ref && rfB a.to b.to && decide (a.fn = b.fn) && decide (a.text = b.text)
set_option maxHeartbeats 1000000 in
set_option maxRecDepth 100000 in
theorem fields_0 (n1 n2 : Nd) (s1 s2 : Value) (w : World)  (h0 : ¬ n1.kind = n2.kind) :
    Calls Try.prog 51 #[exV n1 s1, exV n2 s2] w fun e w' => e = .returned (.bool (ndB n1 n2)) ∧ Below w.heap.size w w' := by
  have k0 : (n1.kind == n2.kind) = false := by simp [h0]
  have hr : ndB n1 n2 = false := by simp [ndB, rfB, h0]
  have hr := hide hr
  have A := at14 n1 s1
  have B := at14 n2 s2
  obtain ⟨a0, a1, a2, a3, a4, a5, a6, a7, a8, a9, a10, a11, a12, a13⟩ := A
  obtain ⟨b0, b1, b2, b3, b4, b5, b6, b7, b8, b9, b10, b11, b12, b13⟩ := B
  go_enter Try.func51, Try.ntmps51
  go_wp2_with fail
  go_ret
  exact ⟨by rw [hr.out]; rfl, step (step (Below.refl _ w) _) _⟩
set_option maxHeartbeats 1000000 in
set_option maxRecDepth 100000 in
theorem fields_1 (n1 n2 : Nd) (s1 s2 : Value) (w : World) (h0 : n1.kind = n2.kind) (h1 : ¬ n1.op = n2.op) :
    Calls Try.prog 51 #[exV n1 s1, exV n2 s2] w fun e w' => e = .returned (.bool (ndB n1 n2)) ∧ Below w.heap.size w w' := by
  have k0 : (n1.kind == n2.kind) = true := by simp [h0]
  have k1 : (n1.op == n2.op) = false := by simp [h1]
  have hr : ndB n1 n2 = false := by simp [ndB, rfB, h0, h1]
  have hr := hide hr
  have A := at14 n1 s1
  have B := at14 n2 s2
  obtain ⟨a0, a1, a2, a3, a4, a5, a6, a7, a8, a9, a10, a11, a12, a13⟩ := A
  obtain ⟨b0, b1, b2, b3, b4, b5, b6, b7, b8, b9, b10, b11, b12, b13⟩ := B
  go_enter Try.func51, Try.ntmps51
  go_wp2_with fail
  go_ret
  exact ⟨by rw [hr.out]; rfl, step (step (Below.refl _ w) _) _⟩
set_option maxHeartbeats 1000000 in
set_option maxRecDepth 100000 in
theorem fields_2 (n1 n2 : Nd) (s1 s2 : Value) (w : World) (h0 : n1.kind = n2.kind) (h1 : n1.op = n2.op) (h2 : ¬ n1.num = n2.num) :
    Calls Try.prog 51 #[exV n1 s1, exV n2 s2] w fun e w' => e = .returned (.bool (ndB n1 n2)) ∧ Below w.heap.size w w' := by
  have k0 : (n1.kind == n2.kind) = true := by simp [h0]
  have k1 : (n1.op == n2.op) = true := by simp [h1]
  have k2 : (n1.num == n2.num) = false := by simp [h2]
  have hr : ndB n1 n2 = false := by simp [ndB, rfB, h0, h1, h2]
  have hr := hide hr
  have A := at14 n1 s1
  have B := at14 n2 s2
  obtain ⟨a0, a1, a2, a3, a4, a5, a6, a7, a8, a9, a10, a11, a12, a13⟩ := A
  obtain ⟨b0, b1, b2, b3, b4, b5, b6, b7, b8, b9, b10, b11, b12, b13⟩ := B
  go_enter Try.func51, Try.ntmps51
  go_wp2_with fail
  go_ret
  exact ⟨by rw [hr.out]; rfl, step (step (Below.refl _ w) _) _⟩
set_option maxHeartbeats 1000000 in
set_option maxRecDepth 100000 in
theorem fields_3 (n1 n2 : Nd) (s1 s2 : Value) (w : World) (h0 : n1.kind = n2.kind) (h1 : n1.op = n2.op) (h2 : n1.num = n2.num) (h3 : ¬ n1.ref.row = n2.ref.row) :
    Calls Try.prog 51 #[exV n1 s1, exV n2 s2] w fun e w' => e = .returned (.bool (ndB n1 n2)) ∧ Below w.heap.size w w' := by
  have k0 : (n1.kind == n2.kind) = true := by simp [h0]
  have k1 : (n1.op == n2.op) = true := by simp [h1]
  have k2 : (n1.num == n2.num) = true := by simp [h2]
  have k3 : (n1.ref.row == n2.ref.row) = false := by simp [h3]
  have hr : ndB n1 n2 = false := by simp [ndB, rfB, h0, h1, h2, h3]
  have hr := hide hr
  have A := at14 n1 s1
  have B := at14 n2 s2
  obtain ⟨a0, a1, a2, a3, a4, a5, a6, a7, a8, a9, a10, a11, a12, a13⟩ := A
  obtain ⟨b0, b1, b2, b3, b4, b5, b6, b7, b8, b9, b10, b11, b12, b13⟩ := B
  go_enter Try.func51, Try.ntmps51
  go_wp2_with fail
  go_ret
  exact ⟨by rw [hr.out]; rfl, step (step (Below.refl _ w) _) _⟩
set_option maxHeartbeats 1000000 in
set_option maxRecDepth 100000 in
theorem fields_4 (n1 n2 : Nd) (s1 s2 : Value) (w : World) (h0 : n1.kind = n2.kind) (h1 : n1.op = n2.op) (h2 : n1.num = n2.num) (h3 : n1.ref.row = n2.ref.row) (h4 : ¬ n1.ref.col = n2.ref.col) :
    Calls Try.prog 51 #[exV n1 s1, exV n2 s2] w fun e w' => e = .returned (.bool (ndB n1 n2)) ∧ Below w.heap.size w w' := by
  have k0 : (n1.kind == n2.kind) = true := by simp [h0]
  have k1 : (n1.op == n2.op) = true := by simp [h1]
  have k2 : (n1.num == n2.num) = true := by simp [h2]
  have k3 : (n1.ref.row == n2.ref.row) = true := by simp [h3]
  have k4 : (n1.ref.col == n2.ref.col) = false := by simp [h4]
  have hr : ndB n1 n2 = false := by simp [ndB, rfB, h0, h1, h2, h3, h4]
  have hr := hide hr
  have A := at14 n1 s1
  have B := at14 n2 s2
  obtain ⟨a0, a1, a2, a3, a4, a5, a6, a7, a8, a9, a10, a11, a12, a13⟩ := A
  obtain ⟨b0, b1, b2, b3, b4, b5, b6, b7, b8, b9, b10, b11, b12, b13⟩ := B
  go_enter Try.func51, Try.ntmps51
  go_wp2_with fail
  go_ret
  exact ⟨by rw [hr.out]; rfl, step (step (Below.refl _ w) _) _⟩
set_option maxHeartbeats 1000000 in
set_option maxRecDepth 100000 in
theorem fields_5 (n1 n2 : Nd) (s1 s2 : Value) (w : World) (h0 : n1.kind = n2.kind) (h1 : n1.op = n2.op) (h2 : n1.num = n2.num) (h3 : n1.ref.row = n2.ref.row) (h4 : n1.ref.col = n2.ref.col) (h5 : ¬ n1.ref.pr = n2.ref.pr) :
    Calls Try.prog 51 #[exV n1 s1, exV n2 s2] w fun e w' => e = .returned (.bool (ndB n1 n2)) ∧ Below w.heap.size w w' := by
  have k0 : (n1.kind == n2.kind) = true := by simp [h0]
  have k1 : (n1.op == n2.op) = true := by simp [h1]
  have k2 : (n1.num == n2.num) = true := by simp [h2]
  have k3 : (n1.ref.row == n2.ref.row) = true := by simp [h3]
  have k4 : (n1.ref.col == n2.ref.col) = true := by simp [h4]
  have k5 : (n1.ref.pr == n2.ref.pr) = false := by simp [h5]
  have hr : ndB n1 n2 = false := by simp [ndB, rfB, h0, h1, h2, h3, h4, h5]
  have hr := hide hr
  have A := at14 n1 s1
  have B := at14 n2 s2
  obtain ⟨a0, a1, a2, a3, a4, a5, a6, a7, a8, a9, a10, a11, a12, a13⟩ := A
  obtain ⟨b0, b1, b2, b3, b4, b5, b6, b7, b8, b9, b10, b11, b12, b13⟩ := B
  go_enter Try.func51, Try.ntmps51
  go_wp2_with fail
  go_ret
  exact ⟨by rw [hr.out]; rfl, step (step (Below.refl _ w) _) _⟩
set_option maxHeartbeats 1000000 in
set_option maxRecDepth 100000 in
theorem fields_6 (n1 n2 : Nd) (s1 s2 : Value) (w : World) (h0 : n1.kind = n2.kind) (h1 : n1.op = n2.op) (h2 : n1.num = n2.num) (h3 : n1.ref.row = n2.ref.row) (h4 : n1.ref.col = n2.ref.col) (h5 : n1.ref.pr = n2.ref.pr) (h6 : ¬ n1.ref.pc = n2.ref.pc) :
    Calls Try.prog 51 #[exV n1 s1, exV n2 s2] w fun e w' => e = .returned (.bool (ndB n1 n2)) ∧ Below w.heap.size w w' := by
  have k0 : (n1.kind == n2.kind) = true := by simp [h0]
  have k1 : (n1.op == n2.op) = true := by simp [h1]
  have k2 : (n1.num == n2.num) = true := by simp [h2]
  have k3 : (n1.ref.row == n2.ref.row) = true := by simp [h3]
  have k4 : (n1.ref.col == n2.ref.col) = true := by simp [h4]
  have k5 : (n1.ref.pr == n2.ref.pr) = true := by simp [h5]
  have k6 : (n1.ref.pc == n2.ref.pc) = false := by simp [h6]
  have hr : ndB n1 n2 = false := by simp [ndB, rfB, h0, h1, h2, h3, h4, h5, h6]
  have hr := hide hr
  have A := at14 n1 s1
  have B := at14 n2 s2
  obtain ⟨a0, a1, a2, a3, a4, a5, a6, a7, a8, a9, a10, a11, a12, a13⟩ := A
  obtain ⟨b0, b1, b2, b3, b4, b5, b6, b7, b8, b9, b10, b11, b12, b13⟩ := B
  go_enter Try.func51, Try.ntmps51
  go_wp2_with fail
  go_ret
  exact ⟨by rw [hr.out]; rfl, step (step (Below.refl _ w) _) _⟩
set_option maxHeartbeats 1000000 in
set_option maxRecDepth 100000 in
theorem fields_7 (n1 n2 : Nd) (s1 s2 : Value) (w : World) (h0 : n1.kind = n2.kind) (h1 : n1.op = n2.op) (h2 : n1.num = n2.num) (h3 : n1.ref.row = n2.ref.row) (h4 : n1.ref.col = n2.ref.col) (h5 : n1.ref.pr = n2.ref.pr) (h6 : n1.ref.pc = n2.ref.pc) (h7 : ¬ n1.to.row = n2.to.row) :
    Calls Try.prog 51 #[exV n1 s1, exV n2 s2] w fun e w' => e = .returned (.bool (ndB n1 n2)) ∧ Below w.heap.size w w' := by
  have k0 : (n1.kind == n2.kind) = true := by simp [h0]
  have k1 : (n1.op == n2.op) = true := by simp [h1]
  have k2 : (n1.num == n2.num) = true := by simp [h2]
  have k3 : (n1.ref.row == n2.ref.row) = true := by simp [h3]
  have k4 : (n1.ref.col == n2.ref.col) = true := by simp [h4]
  have k5 : (n1.ref.pr == n2.ref.pr) = true := by simp [h5]
  have k6 : (n1.ref.pc == n2.ref.pc) = true := by simp [h6]
  have k7 : (n1.to.row == n2.to.row) = false := by simp [h7]
  have hr : ndB n1 n2 = false := by simp [ndB, rfB, h0, h1, h2, h3, h4, h5, h6, h7]
  have hr := hide hr
  have A := at14 n1 s1
  have B := at14 n2 s2
  obtain ⟨a0, a1, a2, a3, a4, a5, a6, a7, a8, a9, a10, a11, a12, a13⟩ := A
  obtain ⟨b0, b1, b2, b3, b4, b5, b6, b7, b8, b9, b10, b11, b12, b13⟩ := B
  go_enter Try.func51, Try.ntmps51
  go_wp2_with fail
  go_ret
  exact ⟨by rw [hr.out]; rfl, step (step (Below.refl _ w) _) _⟩
set_option maxHeartbeats 1000000 in
set_option maxRecDepth 100000 in
theorem fields_8 (n1 n2 : Nd) (s1 s2 : Value) (w : World) (h0 : n1.kind = n2.kind) (h1 : n1.op = n2.op) (h2 : n1.num = n2.num) (h3 : n1.ref.row = n2.ref.row) (h4 : n1.ref.col = n2.ref.col) (h5 : n1.ref.pr = n2.ref.pr) (h6 : n1.ref.pc = n2.ref.pc) (h7 : n1.to.row = n2.to.row) (h8 : ¬ n1.to.col = n2.to.col) :
    Calls Try.prog 51 #[exV n1 s1, exV n2 s2] w fun e w' => e = .returned (.bool (ndB n1 n2)) ∧ Below w.heap.size w w' := by
  have k0 : (n1.kind == n2.kind) = true := by simp [h0]
  have k1 : (n1.op == n2.op) = true := by simp [h1]
  have k2 : (n1.num == n2.num) = true := by simp [h2]
  have k3 : (n1.ref.row == n2.ref.row) = true := by simp [h3]
  have k4 : (n1.ref.col == n2.ref.col) = true := by simp [h4]
  have k5 : (n1.ref.pr == n2.ref.pr) = true := by simp [h5]
  have k6 : (n1.ref.pc == n2.ref.pc) = true := by simp [h6]
  have k7 : (n1.to.row == n2.to.row) = true := by simp [h7]
  have k8 : (n1.to.col == n2.to.col) = false := by simp [h8]
  have hr : ndB n1 n2 = false := by simp [ndB, rfB, h0, h1, h2, h3, h4, h5, h6, h7, h8]
  have hr := hide hr
  have A := at14 n1 s1
  have B := at14 n2 s2
  obtain ⟨a0, a1, a2, a3, a4, a5, a6, a7, a8, a9, a10, a11, a12, a13⟩ := A
  obtain ⟨b0, b1, b2, b3, b4, b5, b6, b7, b8, b9, b10, b11, b12, b13⟩ := B
  go_enter Try.func51, Try.ntmps51
  go_wp2_with fail
  go_ret
  exact ⟨by rw [hr.out]; rfl, step (step (Below.refl _ w) _) _⟩
set_option maxHeartbeats 1000000 in
set_option maxRecDepth 100000 in
theorem fields_9 (n1 n2 : Nd) (s1 s2 : Value) (w : World) (h0 : n1.kind = n2.kind) (h1 : n1.op = n2.op) (h2 : n1.num = n2.num) (h3 : n1.ref.row = n2.ref.row) (h4 : n1.ref.col = n2.ref.col) (h5 : n1.ref.pr = n2.ref.pr) (h6 : n1.ref.pc = n2.ref.pc) (h7 : n1.to.row = n2.to.row) (h8 : n1.to.col = n2.to.col) (h9 : ¬ n1.to.pr = n2.to.pr) :
    Calls Try.prog 51 #[exV n1 s1, exV n2 s2] w fun e w' => e = .returned (.bool (ndB n1 n2)) ∧ Below w.heap.size w w' := by
  have k0 : (n1.kind == n2.kind) = true := by simp [h0]
  have k1 : (n1.op == n2.op) = true := by simp [h1]
  have k2 : (n1.num == n2.num) = true := by simp [h2]
  have k3 : (n1.ref.row == n2.ref.row) = true := by simp [h3]
  have k4 : (n1.ref.col == n2.ref.col) = true := by simp [h4]
  have k5 : (n1.ref.pr == n2.ref.pr) = true := by simp [h5]
  have k6 : (n1.ref.pc == n2.ref.pc) = true := by simp [h6]
  have k7 : (n1.to.row == n2.to.row) = true := by simp [h7]
  have k8 : (n1.to.col == n2.to.col) = true := by simp [h8]
  have k9 : (n1.to.pr == n2.to.pr) = false := by simp [h9]
  have hr : ndB n1 n2 = false := by simp [ndB, rfB, h0, h1, h2, h3, h4, h5, h6, h7, h8, h9]
  have hr := hide hr
  have A := at14 n1 s1
  have B := at14 n2 s2
  obtain ⟨a0, a1, a2, a3, a4, a5, a6, a7, a8, a9, a10, a11, a12, a13⟩ := A
  obtain ⟨b0, b1, b2, b3, b4, b5, b6, b7, b8, b9, b10, b11, b12, b13⟩ := B
  go_enter Try.func51, Try.ntmps51
  go_wp2_with fail
  go_ret
  exact ⟨by rw [hr.out]; rfl, step (step (Below.refl _ w) _) _⟩
set_option maxHeartbeats 1000000 in
set_option maxRecDepth 100000 in
theorem fields_10 (n1 n2 : Nd) (s1 s2 : Value) (w : World) (h0 : n1.kind = n2.kind) (h1 : n1.op = n2.op) (h2 : n1.num = n2.num) (h3 : n1.ref.row = n2.ref.row) (h4 : n1.ref.col = n2.ref.col) (h5 : n1.ref.pr = n2.ref.pr) (h6 : n1.ref.pc = n2.ref.pc) (h7 : n1.to.row = n2.to.row) (h8 : n1.to.col = n2.to.col) (h9 : n1.to.pr = n2.to.pr) (h10 : ¬ n1.to.pc = n2.to.pc) :
    Calls Try.prog 51 #[exV n1 s1, exV n2 s2] w fun e w' => e = .returned (.bool (ndB n1 n2)) ∧ Below w.heap.size w w' := by
  have k0 : (n1.kind == n2.kind) = true := by simp [h0]
  have k1 : (n1.op == n2.op) = true := by simp [h1]
  have k2 : (n1.num == n2.num) = true := by simp [h2]
  have k3 : (n1.ref.row == n2.ref.row) = true := by simp [h3]
  have k4 : (n1.ref.col == n2.ref.col) = true := by simp [h4]
  have k5 : (n1.ref.pr == n2.ref.pr) = true := by simp [h5]
  have k6 : (n1.ref.pc == n2.ref.pc) = true := by simp [h6]
  have k7 : (n1.to.row == n2.to.row) = true := by simp [h7]
  have k8 : (n1.to.col == n2.to.col) = true := by simp [h8]
  have k9 : (n1.to.pr == n2.to.pr) = true := by simp [h9]
  have k10 : (n1.to.pc == n2.to.pc) = false := by simp [h10]
  have hr : ndB n1 n2 = false := by simp [ndB, rfB, h0, h1, h2, h3, h4, h5, h6, h7, h8, h9, h10]
  have hr := hide hr
  have A := at14 n1 s1
  have B := at14 n2 s2
  obtain ⟨a0, a1, a2, a3, a4, a5, a6, a7, a8, a9, a10, a11, a12, a13⟩ := A
  obtain ⟨b0, b1, b2, b3, b4, b5, b6, b7, b8, b9, b10, b11, b12, b13⟩ := B
  go_enter Try.func51, Try.ntmps51
  go_wp2_with fail
  go_ret
  exact ⟨by rw [hr.out]; rfl, step (step (Below.refl _ w) _) _⟩
set_option maxHeartbeats 1000000 in
set_option maxRecDepth 100000 in
theorem fields_11 (n1 n2 : Nd) (s1 s2 : Value) (w : World) (h0 : n1.kind = n2.kind) (h1 : n1.op = n2.op) (h2 : n1.num = n2.num) (h3 : n1.ref.row = n2.ref.row) (h4 : n1.ref.col = n2.ref.col) (h5 : n1.ref.pr = n2.ref.pr) (h6 : n1.ref.pc = n2.ref.pc) (h7 : n1.to.row = n2.to.row) (h8 : n1.to.col = n2.to.col) (h9 : n1.to.pr = n2.to.pr) (h10 : n1.to.pc = n2.to.pc) (h11 : ¬ n1.fn = n2.fn) :
    Calls Try.prog 51 #[exV n1 s1, exV n2 s2] w fun e w' => e = .returned (.bool (ndB n1 n2)) ∧ Below w.heap.size w w' := by
  have k0 : (n1.kind == n2.kind) = true := by simp [h0]
  have k1 : (n1.op == n2.op) = true := by simp [h1]
  have k2 : (n1.num == n2.num) = true := by simp [h2]
  have k3 : (n1.ref.row == n2.ref.row) = true := by simp [h3]
  have k4 : (n1.ref.col == n2.ref.col) = true := by simp [h4]
  have k5 : (n1.ref.pr == n2.ref.pr) = true := by simp [h5]
  have k6 : (n1.ref.pc == n2.ref.pc) = true := by simp [h6]
  have k7 : (n1.to.row == n2.to.row) = true := by simp [h7]
  have k8 : (n1.to.col == n2.to.col) = true := by simp [h8]
  have k9 : (n1.to.pr == n2.to.pr) = true := by simp [h9]
  have k10 : (n1.to.pc == n2.to.pc) = true := by simp [h10]
  have k11 : (n1.fn == n2.fn) = false := by simp [h11]
  have hr : ndB n1 n2 = false := by simp [ndB, rfB, h0, h1, h2, h3, h4, h5, h6, h7, h8, h9, h10, h11]
  have hr := hide hr
  have A := at14 n1 s1
  have B := at14 n2 s2
  obtain ⟨a0, a1, a2, a3, a4, a5, a6, a7, a8, a9, a10, a11, a12, a13⟩ := A
  obtain ⟨b0, b1, b2, b3, b4, b5, b6, b7, b8, b9, b10, b11, b12, b13⟩ := B
  go_enter Try.func51, Try.ntmps51
  go_wp2_with fail
  go_ret
  exact ⟨by rw [hr.out]; rfl, step (step (Below.refl _ w) _) _⟩
set_option maxHeartbeats 1000000 in
set_option maxRecDepth 100000 in
theorem fields_12 (n1 n2 : Nd) (s1 s2 : Value) (w : World) (h0 : n1.kind = n2.kind) (h1 : n1.op = n2.op) (h2 : n1.num = n2.num) (h3 : n1.ref.row = n2.ref.row) (h4 : n1.ref.col = n2.ref.col) (h5 : n1.ref.pr = n2.ref.pr) (h6 : n1.ref.pc = n2.ref.pc) (h7 : n1.to.row = n2.to.row) (h8 : n1.to.col = n2.to.col) (h9 : n1.to.pr = n2.to.pr) (h10 : n1.to.pc = n2.to.pc) (h11 : n1.fn = n2.fn) (h12 : ¬ n1.text = n2.text) :
    Calls Try.prog 51 #[exV n1 s1, exV n2 s2] w fun e w' => e = .returned (.bool (ndB n1 n2)) ∧ Below w.heap.size w w' := by
  have k0 : (n1.kind == n2.kind) = true := by simp [h0]
  have k1 : (n1.op == n2.op) = true := by simp [h1]
  have k2 : (n1.num == n2.num) = true := by simp [h2]
  have k3 : (n1.ref.row == n2.ref.row) = true := by simp [h3]
  have k4 : (n1.ref.col == n2.ref.col) = true := by simp [h4]
  have k5 : (n1.ref.pr == n2.ref.pr) = true := by simp [h5]
  have k6 : (n1.ref.pc == n2.ref.pc) = true := by simp [h6]
  have k7 : (n1.to.row == n2.to.row) = true := by simp [h7]
  have k8 : (n1.to.col == n2.to.col) = true := by simp [h8]
  have k9 : (n1.to.pr == n2.to.pr) = true := by simp [h9]
  have k10 : (n1.to.pc == n2.to.pc) = true := by simp [h10]
  have k11 : (n1.fn == n2.fn) = true := by simp [h11]
  have k12 : (n1.text.toList == n2.text.toList) = false := tl_ne h12
  have hr : ndB n1 n2 = false := by simp [ndB, rfB, h0, h1, h2, h3, h4, h5, h6, h7, h8, h9, h10, h11, h12]
  have hr := hide hr
  have A := at14 n1 s1
  have B := at14 n2 s2
  obtain ⟨a0, a1, a2, a3, a4, a5, a6, a7, a8, a9, a10, a11, a12, a13⟩ := A
  obtain ⟨b0, b1, b2, b3, b4, b5, b6, b7, b8, b9, b10, b11, b12, b13⟩ := B
  go_enter Try.func51, Try.ntmps51
  go_wp2_with fail
  go_ret
  exact ⟨by rw [hr.out]; rfl, step (step (Below.refl _ w) _) _⟩
set_option maxHeartbeats 1000000 in
set_option maxRecDepth 100000 in
theorem fields_13 (n1 n2 : Nd) (s1 s2 : Value) (w : World) (h0 : n1.kind = n2.kind) (h1 : n1.op = n2.op) (h2 : n1.num = n2.num) (h3 : n1.ref.row = n2.ref.row) (h4 : n1.ref.col = n2.ref.col) (h5 : n1.ref.pr = n2.ref.pr) (h6 : n1.ref.pc = n2.ref.pc) (h7 : n1.to.row = n2.to.row) (h8 : n1.to.col = n2.to.col) (h9 : n1.to.pr = n2.to.pr) (h10 : n1.to.pc = n2.to.pc) (h11 : n1.fn = n2.fn) (h12 : n1.text = n2.text) :
    Calls Try.prog 51 #[exV n1 s1, exV n2 s2] w fun e w' => e = .returned (.bool (ndB n1 n2)) ∧ Below w.heap.size w w' := by
  have k0 : (n1.kind == n2.kind) = true := by simp [h0]
  have k1 : (n1.op == n2.op) = true := by simp [h1]
  have k2 : (n1.num == n2.num) = true := by simp [h2]
  have k3 : (n1.ref.row == n2.ref.row) = true := by simp [h3]
  have k4 : (n1.ref.col == n2.ref.col) = true := by simp [h4]
  have k5 : (n1.ref.pr == n2.ref.pr) = true := by simp [h5]
  have k6 : (n1.ref.pc == n2.ref.pc) = true := by simp [h6]
  have k7 : (n1.to.row == n2.to.row) = true := by simp [h7]
  have k8 : (n1.to.col == n2.to.col) = true := by simp [h8]
  have k9 : (n1.to.pr == n2.to.pr) = true := by simp [h9]
  have k10 : (n1.to.pc == n2.to.pc) = true := by simp [h10]
  have k11 : (n1.fn == n2.fn) = true := by simp [h11]
  have k12 : (n1.text.toList == n2.text.toList) = true := by rw [h12]; simp
  have hr : ndB n1 n2 = true := by simp [ndB, rfB, h0, h1, h2, h3, h4, h5, h6, h7, h8, h9, h10, h11, h12]
  have hr := hide hr
  have A := at14 n1 s1
  have B := at14 n2 s2
  obtain ⟨a0, a1, a2, a3, a4, a5, a6, a7, a8, a9, a10, a11, a12, a13⟩ := A
  obtain ⟨b0, b1, b2, b3, b4, b5, b6, b7, b8, b9, b10, b11, b12, b13⟩ := B
  go_enter Try.func51, Try.ntmps51
  go_wp2_with fail
  go_ret
  exact ⟨by rw [hr.out]; rfl, step (step (Below.refl _ w) _) _⟩
theorem fields_any (n1 n2 : Nd) (s1 s2 : Value) (w : World) :
    Calls Try.prog 51 #[exV n1 s1, exV n2 s2] w fun e w' => e = .returned (.bool (ndB n1 n2)) ∧ Below w.heap.size w w' := by
  by_cases h0 : n1.kind = n2.kind
  case neg => exact fields_0 n1 n2 s1 s2 w h0
  by_cases h1 : n1.op = n2.op
  case neg => exact fields_1 n1 n2 s1 s2 w h0 h1
  by_cases h2 : n1.num = n2.num
  case neg => exact fields_2 n1 n2 s1 s2 w h0 h1 h2
  by_cases h3 : n1.ref.row = n2.ref.row
  case neg => exact fields_3 n1 n2 s1 s2 w h0 h1 h2 h3
  by_cases h4 : n1.ref.col = n2.ref.col
  case neg => exact fields_4 n1 n2 s1 s2 w h0 h1 h2 h3 h4
  by_cases h5 : n1.ref.pr = n2.ref.pr
  case neg => exact fields_5 n1 n2 s1 s2 w h0 h1 h2 h3 h4 h5
  by_cases h6 : n1.ref.pc = n2.ref.pc
  case neg => exact fields_6 n1 n2 s1 s2 w h0 h1 h2 h3 h4 h5 h6
  by_cases h7 : n1.to.row = n2.to.row
  case neg => exact fields_7 n1 n2 s1 s2 w h0 h1 h2 h3 h4 h5 h6 h7
  by_cases h8 : n1.to.col = n2.to.col
  case neg => exact fields_8 n1 n2 s1 s2 w h0 h1 h2 h3 h4 h5 h6 h7 h8
  by_cases h9 : n1.to.pr = n2.to.pr
  case neg => exact fields_9 n1 n2 s1 s2 w h0 h1 h2 h3 h4 h5 h6 h7 h8 h9
  by_cases h10 : n1.to.pc = n2.to.pc
  case neg => exact fields_10 n1 n2 s1 s2 w h0 h1 h2 h3 h4 h5 h6 h7 h8 h9 h10
  by_cases h11 : n1.fn = n2.fn
  case neg => exact fields_11 n1 n2 s1 s2 w h0 h1 h2 h3 h4 h5 h6 h7 h8 h9 h10 h11
  by_cases h12 : n1.text = n2.text
  case neg => exact fields_12 n1 n2 s1 s2 w h0 h1 h2 h3 h4 h5 h6 h7 h8 h9 h10 h11 h12
  exact fields_13 n1 n2 s1 s2 w h0 h1 h2 h3 h4 h5 h6 h7 h8 h9 h10 h11 h12
end Go.Proofs.Ytiajoppbgebnpaa
