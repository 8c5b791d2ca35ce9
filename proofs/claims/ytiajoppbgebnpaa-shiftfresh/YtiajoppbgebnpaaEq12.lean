/- quadrillelaw10.Eq: the law's own comparison of two trees. -/
import Derived.Test.YtiajoppbgebnpaaEq9
namespace Go.Proofs.Ytiajoppbgebnpaa
open Go.RowKit Go.Sort
set_option linter.unusedVariables false

abbrev LEqIs (t : Ex) : Prop := ∀ (u : Ex) (v1 v2 : Value) (w : World), Tree w v1 t → Tree w v2 u →
  Calls Try.prog 8 #[v1, v2] w fun e w' => e = .returned (.bool (sameE t u)) ∧ Below w.heap.size w w'
set_option maxHeartbeats 1000000 in
set_option maxRecDepth 100000 in
theorem leq_0 (n1 n2 : Nd) (s1 s2 : Value) (w : World)  (h0 : ¬ n1.kind = n2.kind) :
    Calls Try.prog 8 #[exV n1 s1, exV n2 s2] w fun e w' => e = .returned (.bool false) ∧ Below w.heap.size w w' := by
  have k0 : (n1.kind == n2.kind) = false := by simp [h0]
  have j0 : (n1.kind != n2.kind) = true := by rw [bne, k0]; rfl
  obtain ⟨a0, a1, a2, a3, a4, a5, a6, a7, a8, a9, a10, a11, a12, a13⟩ := at14 n1 s1
  obtain ⟨b0, b1, b2, b3, b4, b5, b6, b7, b8, b9, b10, b11, b12, b13⟩ := at14 n2 s2
  go_enter Try.func8, Try.ntmps8
  go_wp2_with fail
  go_ret
  exact ⟨rfl, step (step (Below.refl _ w) _) _⟩
set_option maxHeartbeats 1000000 in
set_option maxRecDepth 100000 in
theorem leq_1 (n1 n2 : Nd) (s1 s2 : Value) (w : World) (h0 : n1.kind = n2.kind) (h1 : ¬ n1.op = n2.op) :
    Calls Try.prog 8 #[exV n1 s1, exV n2 s2] w fun e w' => e = .returned (.bool false) ∧ Below w.heap.size w w' := by
  have k0 : (n1.kind == n2.kind) = true := by simp [h0]
  have j0 : (n1.kind != n2.kind) = false := by rw [bne, k0]; rfl
  have k1 : (n1.op == n2.op) = false := by simp [h1]
  have j1 : (n1.op != n2.op) = true := by rw [bne, k1]; rfl
  obtain ⟨a0, a1, a2, a3, a4, a5, a6, a7, a8, a9, a10, a11, a12, a13⟩ := at14 n1 s1
  obtain ⟨b0, b1, b2, b3, b4, b5, b6, b7, b8, b9, b10, b11, b12, b13⟩ := at14 n2 s2
  go_enter Try.func8, Try.ntmps8
  go_wp2_with fail
  go_ret
  exact ⟨rfl, step (step (Below.refl _ w) _) _⟩
set_option maxHeartbeats 1000000 in
set_option maxRecDepth 100000 in
theorem leq_2 (n1 n2 : Nd) (s1 s2 : Value) (w : World) (h0 : n1.kind = n2.kind) (h1 : n1.op = n2.op) (h2 : ¬ n1.num = n2.num) :
    Calls Try.prog 8 #[exV n1 s1, exV n2 s2] w fun e w' => e = .returned (.bool false) ∧ Below w.heap.size w w' := by
  have k0 : (n1.kind == n2.kind) = true := by simp [h0]
  have j0 : (n1.kind != n2.kind) = false := by rw [bne, k0]; rfl
  have k1 : (n1.op == n2.op) = true := by simp [h1]
  have j1 : (n1.op != n2.op) = false := by rw [bne, k1]; rfl
  have k2 : (n1.num == n2.num) = false := by simp [h2]
  have j2 : (n1.num != n2.num) = true := by rw [bne, k2]; rfl
  obtain ⟨a0, a1, a2, a3, a4, a5, a6, a7, a8, a9, a10, a11, a12, a13⟩ := at14 n1 s1
  obtain ⟨b0, b1, b2, b3, b4, b5, b6, b7, b8, b9, b10, b11, b12, b13⟩ := at14 n2 s2
  go_enter Try.func8, Try.ntmps8
  go_wp2_with fail
  go_ret
  exact ⟨rfl, step (step (Below.refl _ w) _) _⟩
set_option maxHeartbeats 1000000 in
set_option maxRecDepth 100000 in
theorem leq_3 (n1 n2 : Nd) (s1 s2 : Value) (w : World) (h0 : n1.kind = n2.kind) (h1 : n1.op = n2.op) (h2 : n1.num = n2.num) (h3 : ¬ n1.text = n2.text) :
    Calls Try.prog 8 #[exV n1 s1, exV n2 s2] w fun e w' => e = .returned (.bool false) ∧ Below w.heap.size w w' := by
  have k0 : (n1.kind == n2.kind) = true := by simp [h0]
  have j0 : (n1.kind != n2.kind) = false := by rw [bne, k0]; rfl
  have k1 : (n1.op == n2.op) = true := by simp [h1]
  have j1 : (n1.op != n2.op) = false := by rw [bne, k1]; rfl
  have k2 : (n1.num == n2.num) = true := by simp [h2]
  have j2 : (n1.num != n2.num) = false := by rw [bne, k2]; rfl
  have k3 : (n1.text.toList == n2.text.toList) = false := tl_ne h3
  have j3 : (n1.text.toList != n2.text.toList) = true := by rw [bne, k3]; rfl
  obtain ⟨a0, a1, a2, a3, a4, a5, a6, a7, a8, a9, a10, a11, a12, a13⟩ := at14 n1 s1
  obtain ⟨b0, b1, b2, b3, b4, b5, b6, b7, b8, b9, b10, b11, b12, b13⟩ := at14 n2 s2
  go_enter Try.func8, Try.ntmps8
  go_wp2_with fail
  go_ret
  exact ⟨rfl, step (step (Below.refl _ w) _) _⟩
set_option maxHeartbeats 1000000 in
set_option maxRecDepth 100000 in
theorem leq_4 (n1 n2 : Nd) (s1 s2 : Value) (w : World) (h0 : n1.kind = n2.kind) (h1 : n1.op = n2.op) (h2 : n1.num = n2.num) (h3 : n1.text = n2.text) (h4 : ¬ n1.ref.row = n2.ref.row) :
    Calls Try.prog 8 #[exV n1 s1, exV n2 s2] w fun e w' => e = .returned (.bool false) ∧ Below w.heap.size w w' := by
  have k0 : (n1.kind == n2.kind) = true := by simp [h0]
  have j0 : (n1.kind != n2.kind) = false := by rw [bne, k0]; rfl
  have k1 : (n1.op == n2.op) = true := by simp [h1]
  have j1 : (n1.op != n2.op) = false := by rw [bne, k1]; rfl
  have k2 : (n1.num == n2.num) = true := by simp [h2]
  have j2 : (n1.num != n2.num) = false := by rw [bne, k2]; rfl
  have k3 : (n1.text.toList == n2.text.toList) = true := by rw [h3]; simp
  have j3 : (n1.text.toList != n2.text.toList) = false := by rw [bne, k3]; rfl
  have k4 : (n1.ref.row == n2.ref.row) = false := by simp [h4]
  have j4 : (n1.ref.row != n2.ref.row) = true := by rw [bne, k4]; rfl
  obtain ⟨a0, a1, a2, a3, a4, a5, a6, a7, a8, a9, a10, a11, a12, a13⟩ := at14 n1 s1
  obtain ⟨b0, b1, b2, b3, b4, b5, b6, b7, b8, b9, b10, b11, b12, b13⟩ := at14 n2 s2
  go_enter Try.func8, Try.ntmps8
  go_wp2_with fail
  go_ret
  exact ⟨rfl, step (step (Below.refl _ w) _) _⟩
set_option maxHeartbeats 1000000 in
set_option maxRecDepth 100000 in
theorem leq_5 (n1 n2 : Nd) (s1 s2 : Value) (w : World) (h0 : n1.kind = n2.kind) (h1 : n1.op = n2.op) (h2 : n1.num = n2.num) (h3 : n1.text = n2.text) (h4 : n1.ref.row = n2.ref.row) (h5 : ¬ n1.ref.col = n2.ref.col) :
    Calls Try.prog 8 #[exV n1 s1, exV n2 s2] w fun e w' => e = .returned (.bool false) ∧ Below w.heap.size w w' := by
  have k0 : (n1.kind == n2.kind) = true := by simp [h0]
  have j0 : (n1.kind != n2.kind) = false := by rw [bne, k0]; rfl
  have k1 : (n1.op == n2.op) = true := by simp [h1]
  have j1 : (n1.op != n2.op) = false := by rw [bne, k1]; rfl
  have k2 : (n1.num == n2.num) = true := by simp [h2]
  have j2 : (n1.num != n2.num) = false := by rw [bne, k2]; rfl
  have k3 : (n1.text.toList == n2.text.toList) = true := by rw [h3]; simp
  have j3 : (n1.text.toList != n2.text.toList) = false := by rw [bne, k3]; rfl
  have k4 : (n1.ref.row == n2.ref.row) = true := by simp [h4]
  have j4 : (n1.ref.row != n2.ref.row) = false := by rw [bne, k4]; rfl
  have k5 : (n1.ref.col == n2.ref.col) = false := by simp [h5]
  have j5 : (n1.ref.col != n2.ref.col) = true := by rw [bne, k5]; rfl
  obtain ⟨a0, a1, a2, a3, a4, a5, a6, a7, a8, a9, a10, a11, a12, a13⟩ := at14 n1 s1
  obtain ⟨b0, b1, b2, b3, b4, b5, b6, b7, b8, b9, b10, b11, b12, b13⟩ := at14 n2 s2
  go_enter Try.func8, Try.ntmps8
  go_wp2_with fail
  go_ret
  exact ⟨rfl, step (step (Below.refl _ w) _) _⟩
set_option maxHeartbeats 1000000 in
set_option maxRecDepth 100000 in
theorem leq_6 (n1 n2 : Nd) (s1 s2 : Value) (w : World) (h0 : n1.kind = n2.kind) (h1 : n1.op = n2.op) (h2 : n1.num = n2.num) (h3 : n1.text = n2.text) (h4 : n1.ref.row = n2.ref.row) (h5 : n1.ref.col = n2.ref.col) (h6 : ¬ n1.ref.pr = n2.ref.pr) :
    Calls Try.prog 8 #[exV n1 s1, exV n2 s2] w fun e w' => e = .returned (.bool false) ∧ Below w.heap.size w w' := by
  have k0 : (n1.kind == n2.kind) = true := by simp [h0]
  have j0 : (n1.kind != n2.kind) = false := by rw [bne, k0]; rfl
  have k1 : (n1.op == n2.op) = true := by simp [h1]
  have j1 : (n1.op != n2.op) = false := by rw [bne, k1]; rfl
  have k2 : (n1.num == n2.num) = true := by simp [h2]
  have j2 : (n1.num != n2.num) = false := by rw [bne, k2]; rfl
  have k3 : (n1.text.toList == n2.text.toList) = true := by rw [h3]; simp
  have j3 : (n1.text.toList != n2.text.toList) = false := by rw [bne, k3]; rfl
  have k4 : (n1.ref.row == n2.ref.row) = true := by simp [h4]
  have j4 : (n1.ref.row != n2.ref.row) = false := by rw [bne, k4]; rfl
  have k5 : (n1.ref.col == n2.ref.col) = true := by simp [h5]
  have j5 : (n1.ref.col != n2.ref.col) = false := by rw [bne, k5]; rfl
  have k6 : (n1.ref.pr == n2.ref.pr) = false := by simp [h6]
  have j6 : (n1.ref.pr != n2.ref.pr) = true := by rw [bne, k6]; rfl
  obtain ⟨a0, a1, a2, a3, a4, a5, a6, a7, a8, a9, a10, a11, a12, a13⟩ := at14 n1 s1
  obtain ⟨b0, b1, b2, b3, b4, b5, b6, b7, b8, b9, b10, b11, b12, b13⟩ := at14 n2 s2
  go_enter Try.func8, Try.ntmps8
  go_wp2_with fail
  go_ret
  exact ⟨rfl, step (step (Below.refl _ w) _) _⟩
set_option maxHeartbeats 1000000 in
set_option maxRecDepth 100000 in
theorem leq_7 (n1 n2 : Nd) (s1 s2 : Value) (w : World) (h0 : n1.kind = n2.kind) (h1 : n1.op = n2.op) (h2 : n1.num = n2.num) (h3 : n1.text = n2.text) (h4 : n1.ref.row = n2.ref.row) (h5 : n1.ref.col = n2.ref.col) (h6 : n1.ref.pr = n2.ref.pr) (h7 : ¬ n1.ref.pc = n2.ref.pc) :
    Calls Try.prog 8 #[exV n1 s1, exV n2 s2] w fun e w' => e = .returned (.bool false) ∧ Below w.heap.size w w' := by
  have k0 : (n1.kind == n2.kind) = true := by simp [h0]
  have j0 : (n1.kind != n2.kind) = false := by rw [bne, k0]; rfl
  have k1 : (n1.op == n2.op) = true := by simp [h1]
  have j1 : (n1.op != n2.op) = false := by rw [bne, k1]; rfl
  have k2 : (n1.num == n2.num) = true := by simp [h2]
  have j2 : (n1.num != n2.num) = false := by rw [bne, k2]; rfl
  have k3 : (n1.text.toList == n2.text.toList) = true := by rw [h3]; simp
  have j3 : (n1.text.toList != n2.text.toList) = false := by rw [bne, k3]; rfl
  have k4 : (n1.ref.row == n2.ref.row) = true := by simp [h4]
  have j4 : (n1.ref.row != n2.ref.row) = false := by rw [bne, k4]; rfl
  have k5 : (n1.ref.col == n2.ref.col) = true := by simp [h5]
  have j5 : (n1.ref.col != n2.ref.col) = false := by rw [bne, k5]; rfl
  have k6 : (n1.ref.pr == n2.ref.pr) = true := by simp [h6]
  have j6 : (n1.ref.pr != n2.ref.pr) = false := by rw [bne, k6]; rfl
  have k7 : (n1.ref.pc == n2.ref.pc) = false := by simp [h7]
  have j7 : (n1.ref.pc != n2.ref.pc) = true := by rw [bne, k7]; rfl
  obtain ⟨a0, a1, a2, a3, a4, a5, a6, a7, a8, a9, a10, a11, a12, a13⟩ := at14 n1 s1
  obtain ⟨b0, b1, b2, b3, b4, b5, b6, b7, b8, b9, b10, b11, b12, b13⟩ := at14 n2 s2
  go_enter Try.func8, Try.ntmps8
  go_wp2_with fail
  go_ret
  exact ⟨rfl, step (step (Below.refl _ w) _) _⟩
set_option maxHeartbeats 1000000 in
set_option maxRecDepth 100000 in
theorem leq_8 (n1 n2 : Nd) (s1 s2 : Value) (w : World) (h0 : n1.kind = n2.kind) (h1 : n1.op = n2.op) (h2 : n1.num = n2.num) (h3 : n1.text = n2.text) (h4 : n1.ref.row = n2.ref.row) (h5 : n1.ref.col = n2.ref.col) (h6 : n1.ref.pr = n2.ref.pr) (h7 : n1.ref.pc = n2.ref.pc) (h8 : ¬ n1.to.row = n2.to.row) :
    Calls Try.prog 8 #[exV n1 s1, exV n2 s2] w fun e w' => e = .returned (.bool false) ∧ Below w.heap.size w w' := by
  have k0 : (n1.kind == n2.kind) = true := by simp [h0]
  have j0 : (n1.kind != n2.kind) = false := by rw [bne, k0]; rfl
  have k1 : (n1.op == n2.op) = true := by simp [h1]
  have j1 : (n1.op != n2.op) = false := by rw [bne, k1]; rfl
  have k2 : (n1.num == n2.num) = true := by simp [h2]
  have j2 : (n1.num != n2.num) = false := by rw [bne, k2]; rfl
  have k3 : (n1.text.toList == n2.text.toList) = true := by rw [h3]; simp
  have j3 : (n1.text.toList != n2.text.toList) = false := by rw [bne, k3]; rfl
  have k4 : (n1.ref.row == n2.ref.row) = true := by simp [h4]
  have j4 : (n1.ref.row != n2.ref.row) = false := by rw [bne, k4]; rfl
  have k5 : (n1.ref.col == n2.ref.col) = true := by simp [h5]
  have j5 : (n1.ref.col != n2.ref.col) = false := by rw [bne, k5]; rfl
  have k6 : (n1.ref.pr == n2.ref.pr) = true := by simp [h6]
  have j6 : (n1.ref.pr != n2.ref.pr) = false := by rw [bne, k6]; rfl
  have k7 : (n1.ref.pc == n2.ref.pc) = true := by simp [h7]
  have j7 : (n1.ref.pc != n2.ref.pc) = false := by rw [bne, k7]; rfl
  have k8 : (n1.to.row == n2.to.row) = false := by simp [h8]
  have j8 : (n1.to.row != n2.to.row) = true := by rw [bne, k8]; rfl
  obtain ⟨a0, a1, a2, a3, a4, a5, a6, a7, a8, a9, a10, a11, a12, a13⟩ := at14 n1 s1
  obtain ⟨b0, b1, b2, b3, b4, b5, b6, b7, b8, b9, b10, b11, b12, b13⟩ := at14 n2 s2
  go_enter Try.func8, Try.ntmps8
  go_wp2_with fail
  go_ret
  exact ⟨rfl, step (step (Below.refl _ w) _) _⟩
set_option maxHeartbeats 1000000 in
set_option maxRecDepth 100000 in
theorem leq_9 (n1 n2 : Nd) (s1 s2 : Value) (w : World) (h0 : n1.kind = n2.kind) (h1 : n1.op = n2.op) (h2 : n1.num = n2.num) (h3 : n1.text = n2.text) (h4 : n1.ref.row = n2.ref.row) (h5 : n1.ref.col = n2.ref.col) (h6 : n1.ref.pr = n2.ref.pr) (h7 : n1.ref.pc = n2.ref.pc) (h8 : n1.to.row = n2.to.row) (h9 : ¬ n1.to.col = n2.to.col) :
    Calls Try.prog 8 #[exV n1 s1, exV n2 s2] w fun e w' => e = .returned (.bool false) ∧ Below w.heap.size w w' := by
  have k0 : (n1.kind == n2.kind) = true := by simp [h0]
  have j0 : (n1.kind != n2.kind) = false := by rw [bne, k0]; rfl
  have k1 : (n1.op == n2.op) = true := by simp [h1]
  have j1 : (n1.op != n2.op) = false := by rw [bne, k1]; rfl
  have k2 : (n1.num == n2.num) = true := by simp [h2]
  have j2 : (n1.num != n2.num) = false := by rw [bne, k2]; rfl
  have k3 : (n1.text.toList == n2.text.toList) = true := by rw [h3]; simp
  have j3 : (n1.text.toList != n2.text.toList) = false := by rw [bne, k3]; rfl
  have k4 : (n1.ref.row == n2.ref.row) = true := by simp [h4]
  have j4 : (n1.ref.row != n2.ref.row) = false := by rw [bne, k4]; rfl
  have k5 : (n1.ref.col == n2.ref.col) = true := by simp [h5]
  have j5 : (n1.ref.col != n2.ref.col) = false := by rw [bne, k5]; rfl
  have k6 : (n1.ref.pr == n2.ref.pr) = true := by simp [h6]
  have j6 : (n1.ref.pr != n2.ref.pr) = false := by rw [bne, k6]; rfl
  have k7 : (n1.ref.pc == n2.ref.pc) = true := by simp [h7]
  have j7 : (n1.ref.pc != n2.ref.pc) = false := by rw [bne, k7]; rfl
  have k8 : (n1.to.row == n2.to.row) = true := by simp [h8]
  have j8 : (n1.to.row != n2.to.row) = false := by rw [bne, k8]; rfl
  have k9 : (n1.to.col == n2.to.col) = false := by simp [h9]
  have j9 : (n1.to.col != n2.to.col) = true := by rw [bne, k9]; rfl
  obtain ⟨a0, a1, a2, a3, a4, a5, a6, a7, a8, a9, a10, a11, a12, a13⟩ := at14 n1 s1
  obtain ⟨b0, b1, b2, b3, b4, b5, b6, b7, b8, b9, b10, b11, b12, b13⟩ := at14 n2 s2
  go_enter Try.func8, Try.ntmps8
  go_wp2_with fail
  go_ret
  exact ⟨rfl, step (step (Below.refl _ w) _) _⟩
set_option maxHeartbeats 1000000 in
set_option maxRecDepth 100000 in
theorem leq_10 (n1 n2 : Nd) (s1 s2 : Value) (w : World) (h0 : n1.kind = n2.kind) (h1 : n1.op = n2.op) (h2 : n1.num = n2.num) (h3 : n1.text = n2.text) (h4 : n1.ref.row = n2.ref.row) (h5 : n1.ref.col = n2.ref.col) (h6 : n1.ref.pr = n2.ref.pr) (h7 : n1.ref.pc = n2.ref.pc) (h8 : n1.to.row = n2.to.row) (h9 : n1.to.col = n2.to.col) (h10 : ¬ n1.to.pr = n2.to.pr) :
    Calls Try.prog 8 #[exV n1 s1, exV n2 s2] w fun e w' => e = .returned (.bool false) ∧ Below w.heap.size w w' := by
  have k0 : (n1.kind == n2.kind) = true := by simp [h0]
  have j0 : (n1.kind != n2.kind) = false := by rw [bne, k0]; rfl
  have k1 : (n1.op == n2.op) = true := by simp [h1]
  have j1 : (n1.op != n2.op) = false := by rw [bne, k1]; rfl
  have k2 : (n1.num == n2.num) = true := by simp [h2]
  have j2 : (n1.num != n2.num) = false := by rw [bne, k2]; rfl
  have k3 : (n1.text.toList == n2.text.toList) = true := by rw [h3]; simp
  have j3 : (n1.text.toList != n2.text.toList) = false := by rw [bne, k3]; rfl
  have k4 : (n1.ref.row == n2.ref.row) = true := by simp [h4]
  have j4 : (n1.ref.row != n2.ref.row) = false := by rw [bne, k4]; rfl
  have k5 : (n1.ref.col == n2.ref.col) = true := by simp [h5]
  have j5 : (n1.ref.col != n2.ref.col) = false := by rw [bne, k5]; rfl
  have k6 : (n1.ref.pr == n2.ref.pr) = true := by simp [h6]
  have j6 : (n1.ref.pr != n2.ref.pr) = false := by rw [bne, k6]; rfl
  have k7 : (n1.ref.pc == n2.ref.pc) = true := by simp [h7]
  have j7 : (n1.ref.pc != n2.ref.pc) = false := by rw [bne, k7]; rfl
  have k8 : (n1.to.row == n2.to.row) = true := by simp [h8]
  have j8 : (n1.to.row != n2.to.row) = false := by rw [bne, k8]; rfl
  have k9 : (n1.to.col == n2.to.col) = true := by simp [h9]
  have j9 : (n1.to.col != n2.to.col) = false := by rw [bne, k9]; rfl
  have k10 : (n1.to.pr == n2.to.pr) = false := by simp [h10]
  have j10 : (n1.to.pr != n2.to.pr) = true := by rw [bne, k10]; rfl
  obtain ⟨a0, a1, a2, a3, a4, a5, a6, a7, a8, a9, a10, a11, a12, a13⟩ := at14 n1 s1
  obtain ⟨b0, b1, b2, b3, b4, b5, b6, b7, b8, b9, b10, b11, b12, b13⟩ := at14 n2 s2
  go_enter Try.func8, Try.ntmps8
  go_wp2_with fail
  go_ret
  exact ⟨rfl, step (step (Below.refl _ w) _) _⟩
set_option maxHeartbeats 1000000 in
set_option maxRecDepth 100000 in
theorem leq_11 (n1 n2 : Nd) (s1 s2 : Value) (w : World) (h0 : n1.kind = n2.kind) (h1 : n1.op = n2.op) (h2 : n1.num = n2.num) (h3 : n1.text = n2.text) (h4 : n1.ref.row = n2.ref.row) (h5 : n1.ref.col = n2.ref.col) (h6 : n1.ref.pr = n2.ref.pr) (h7 : n1.ref.pc = n2.ref.pc) (h8 : n1.to.row = n2.to.row) (h9 : n1.to.col = n2.to.col) (h10 : n1.to.pr = n2.to.pr) (h11 : ¬ n1.to.pc = n2.to.pc) :
    Calls Try.prog 8 #[exV n1 s1, exV n2 s2] w fun e w' => e = .returned (.bool false) ∧ Below w.heap.size w w' := by
  have k0 : (n1.kind == n2.kind) = true := by simp [h0]
  have j0 : (n1.kind != n2.kind) = false := by rw [bne, k0]; rfl
  have k1 : (n1.op == n2.op) = true := by simp [h1]
  have j1 : (n1.op != n2.op) = false := by rw [bne, k1]; rfl
  have k2 : (n1.num == n2.num) = true := by simp [h2]
  have j2 : (n1.num != n2.num) = false := by rw [bne, k2]; rfl
  have k3 : (n1.text.toList == n2.text.toList) = true := by rw [h3]; simp
  have j3 : (n1.text.toList != n2.text.toList) = false := by rw [bne, k3]; rfl
  have k4 : (n1.ref.row == n2.ref.row) = true := by simp [h4]
  have j4 : (n1.ref.row != n2.ref.row) = false := by rw [bne, k4]; rfl
  have k5 : (n1.ref.col == n2.ref.col) = true := by simp [h5]
  have j5 : (n1.ref.col != n2.ref.col) = false := by rw [bne, k5]; rfl
  have k6 : (n1.ref.pr == n2.ref.pr) = true := by simp [h6]
  have j6 : (n1.ref.pr != n2.ref.pr) = false := by rw [bne, k6]; rfl
  have k7 : (n1.ref.pc == n2.ref.pc) = true := by simp [h7]
  have j7 : (n1.ref.pc != n2.ref.pc) = false := by rw [bne, k7]; rfl
  have k8 : (n1.to.row == n2.to.row) = true := by simp [h8]
  have j8 : (n1.to.row != n2.to.row) = false := by rw [bne, k8]; rfl
  have k9 : (n1.to.col == n2.to.col) = true := by simp [h9]
  have j9 : (n1.to.col != n2.to.col) = false := by rw [bne, k9]; rfl
  have k10 : (n1.to.pr == n2.to.pr) = true := by simp [h10]
  have j10 : (n1.to.pr != n2.to.pr) = false := by rw [bne, k10]; rfl
  have k11 : (n1.to.pc == n2.to.pc) = false := by simp [h11]
  have j11 : (n1.to.pc != n2.to.pc) = true := by rw [bne, k11]; rfl
  obtain ⟨a0, a1, a2, a3, a4, a5, a6, a7, a8, a9, a10, a11, a12, a13⟩ := at14 n1 s1
  obtain ⟨b0, b1, b2, b3, b4, b5, b6, b7, b8, b9, b10, b11, b12, b13⟩ := at14 n2 s2
  go_enter Try.func8, Try.ntmps8
  go_wp2_with fail
  go_ret
  exact ⟨rfl, step (step (Below.refl _ w) _) _⟩
set_option maxHeartbeats 1000000 in
set_option maxRecDepth 100000 in
theorem leq_12 (n1 n2 : Nd) (s1 s2 : Value) (w : World) (h0 : n1.kind = n2.kind) (h1 : n1.op = n2.op) (h2 : n1.num = n2.num) (h3 : n1.text = n2.text) (h4 : n1.ref.row = n2.ref.row) (h5 : n1.ref.col = n2.ref.col) (h6 : n1.ref.pr = n2.ref.pr) (h7 : n1.ref.pc = n2.ref.pc) (h8 : n1.to.row = n2.to.row) (h9 : n1.to.col = n2.to.col) (h10 : n1.to.pr = n2.to.pr) (h11 : n1.to.pc = n2.to.pc) (h12 : ¬ n1.fn = n2.fn) :
    Calls Try.prog 8 #[exV n1 s1, exV n2 s2] w fun e w' => e = .returned (.bool false) ∧ Below w.heap.size w w' := by
  have k0 : (n1.kind == n2.kind) = true := by simp [h0]
  have j0 : (n1.kind != n2.kind) = false := by rw [bne, k0]; rfl
  have k1 : (n1.op == n2.op) = true := by simp [h1]
  have j1 : (n1.op != n2.op) = false := by rw [bne, k1]; rfl
  have k2 : (n1.num == n2.num) = true := by simp [h2]
  have j2 : (n1.num != n2.num) = false := by rw [bne, k2]; rfl
  have k3 : (n1.text.toList == n2.text.toList) = true := by rw [h3]; simp
  have j3 : (n1.text.toList != n2.text.toList) = false := by rw [bne, k3]; rfl
  have k4 : (n1.ref.row == n2.ref.row) = true := by simp [h4]
  have j4 : (n1.ref.row != n2.ref.row) = false := by rw [bne, k4]; rfl
  have k5 : (n1.ref.col == n2.ref.col) = true := by simp [h5]
  have j5 : (n1.ref.col != n2.ref.col) = false := by rw [bne, k5]; rfl
  have k6 : (n1.ref.pr == n2.ref.pr) = true := by simp [h6]
  have j6 : (n1.ref.pr != n2.ref.pr) = false := by rw [bne, k6]; rfl
  have k7 : (n1.ref.pc == n2.ref.pc) = true := by simp [h7]
  have j7 : (n1.ref.pc != n2.ref.pc) = false := by rw [bne, k7]; rfl
  have k8 : (n1.to.row == n2.to.row) = true := by simp [h8]
  have j8 : (n1.to.row != n2.to.row) = false := by rw [bne, k8]; rfl
  have k9 : (n1.to.col == n2.to.col) = true := by simp [h9]
  have j9 : (n1.to.col != n2.to.col) = false := by rw [bne, k9]; rfl
  have k10 : (n1.to.pr == n2.to.pr) = true := by simp [h10]
  have j10 : (n1.to.pr != n2.to.pr) = false := by rw [bne, k10]; rfl
  have k11 : (n1.to.pc == n2.to.pc) = true := by simp [h11]
  have j11 : (n1.to.pc != n2.to.pc) = false := by rw [bne, k11]; rfl
  have k12 : (n1.fn == n2.fn) = false := by simp [h12]
  have j12 : (n1.fn != n2.fn) = true := by rw [bne, k12]; rfl
  obtain ⟨a0, a1, a2, a3, a4, a5, a6, a7, a8, a9, a10, a11, a12, a13⟩ := at14 n1 s1
  obtain ⟨b0, b1, b2, b3, b4, b5, b6, b7, b8, b9, b10, b11, b12, b13⟩ := at14 n2 s2
  go_enter Try.func8, Try.ntmps8
  go_wp2_with fail
  go_ret
  exact ⟨rfl, step (step (Below.refl _ w) _) _⟩
set_option maxHeartbeats 2000000 in
set_option maxRecDepth 100000 in
theorem leq_same (n : Nd) (ks ls : List Ex) (ih : ∀ k ∈ ks, LEqIs k) (a1 a2 : Option Addr) (len1 len2 cap1 cap2 : Nat) (w : World) (h1 : KidsAt w a1 len1 ks) (h2 : KidsAt w a2 len2 ls) :
    Calls Try.prog 8 #[exV n (.slice a1 len1 cap1), exV n (.slice a2 len2 cap2)] w fun e w' => e = .returned (.bool (sameL ks ls)) ∧ Below w.heap.size w w' := by
  have l1 := hide h1.lq
  have l2 := hide h2.lq
  have s1 := hide h1.small
  have P0 := hide ((Blk.new w (exC n (.slice a1 len1 cap1)) 37).alloc (exO n (.slice a2 len2 cap2)))
  have P1 := hide (Blk.new1 w (exO n (.slice a1 len1 cap1)) (exC n (.slice a2 len2 cap2)) 37)
  replace h1 := hide h1
  replace h2 := hide h2
  replace ih := hide ih
  have k3 : (n.text.toList == n.text.toList) = true := by simp
  obtain ⟨a0, a1', a2', a3, a4, a5, a6, a7, a8, a9, a10, a11, a12, a13⟩ := at14 n (.slice a1 len1 cap1)
  obtain ⟨b0, b1, b2, b3, b4, b5, b6, b7, b8, b9, b10, b11, b12, b13⟩ := at14 n (.slice a2 len2 cap2)
  have B2 := hide (step (step (Below.refl w.heap.size w) (exO n (.slice a1 len1 cap1))) (exO n (.slice a2 len2 cap2)))
  by_cases hl : len1 = len2
  · have p0 : ((len1 : Int) == (len2 : Int)) = true := by simp [hl]
    have p0' : ((len1 : Int) != (len2 : Int)) = false := by rw [bne, p0]; rfl
    replace hl := hide hl
    go_enter Try.func8, Try.ntmps8
    go_wp2_with fail
    clear a0 a1' a2' a3 a4 a5 a6 a7 a8 a9 a10 a11 a12 b0 b1 b2 b3 b4 b5 b6 b7 b8 b9 b10 b11 b12
    go_loopw [5] (fun i wr => ∃ (k : Nat), k ≤ len1 ∧ i = .int .i64 k ∧ Hid (Below ((w.alloc (exO n (.slice a1 len1 cap1))).alloc (exO n (.slice a2 len2 cap2))).heap.size ((w.alloc (exO n (.slice a1 len1 cap1))).alloc (exO n (.slice a2 len2 cap2))) wr) ∧ Hid (sameL ks ls = sameL (ks.drop k) (ls.drop k))) (fun i _ => len1 - (intOf i).toNat)
    case atStart => exact ⟨0, Nat.zero_le _, rfl, Below.refl _ _, rfl⟩
    case round =>
      obtain ⟨k, hkl, rfl, HB, HL⟩ := hrel
      have c1 := ((P0.out.keep HB.out).at' 13).trans a13
      have c2 := ((P1.out.keep HB.out).at' 13).trans b13
      by_cases hlt : k < len1
      · have q0 : (k : Int) < (len1 : Int) := by omega
        have q1 : (k : Int) < (len2 : Int) := by have := hl.out; omega
        have q2 : k < len2 := by omega
        have bw := next B2.out HB.out
        obtain ⟨b1, o1, rfl, hk1, aa1, ll1, cc1, t1, r1⟩ := h1.out.get hlt
        obtain ⟨b2, o2, rfl, hk2, aa2, ll2, cc2, t2, r2⟩ := h2.out.get (i := k) q2
        have hat := sameL_at ks ls k hk1 hk2
        have ihk := ih.out _ (List.getElem_mem hk1)
        generalize ks[k] = tk at *
        generalize ls[k] = uk at *
        have hb1l := World.block_lt_of_cell? w ⟨b1, _, none⟩ (r1 0 _ rfl)
        have hb2l := World.block_lt_of_cell? w ⟨b2, _, none⟩ (r2 0 _ rfl)
        obtain ⟨x0, x1, x2, x3, x4, x5, x6, x7, x8, x9, x10, x11, x12, x13⟩ := range14 (range_of_block r1 (bw.block b1 hb1l))
        obtain ⟨y0, y1, y2, y3, y4, y5, y6, y7, y8, y9, y10, y11, y12, y13⟩ := range14 (range_of_block r2 (bw.block b2 hb2l))
        have u0 := cell_regrown x0
        have v0 := cell_regrown y0
        have u1 := cell_regrown x1
        have v1 := cell_regrown y1
        have u2 := cell_regrown x2
        have v2 := cell_regrown y2
        have u3 := cell_regrown x3
        have v3 := cell_regrown y3
        have u4 := cell_regrown x4
        have v4 := cell_regrown y4
        have u5 := cell_regrown x5
        have v5 := cell_regrown y5
        have u6 := cell_regrown x6
        have v6 := cell_regrown y6
        have u7 := cell_regrown x7
        have v7 := cell_regrown y7
        have u8 := cell_regrown x8
        have v8 := cell_regrown y8
        have u9 := cell_regrown x9
        have v9 := cell_regrown y9
        have u10 := cell_regrown x10
        have v10 := cell_regrown y10
        have u11 := cell_regrown x11
        have v11 := cell_regrown y11
        have u12 := cell_regrown x12
        have v12 := cell_regrown y12
        have u13 := cell_regrown x13
        have v13 := cell_regrown y13
        have uc := cell_regrown c1
        have vc := cell_regrown c2
        have kc : ∀ d os, Calls Try.prog 8 #[lit14 tk.nd (.slice aa1 ll1 cc1), lit14 uk.nd (.slice aa2 ll2 cc2)] (grow (redrawn wr d) os) fun e w'' => e = .returned (.bool (sameE tk uk)) ∧ ∃ p : Regrown, w'' = grow (redrawn wr p.d) p.os := fun d' os => Calls.regrown_of (ihk uk _ _ (grow (redrawn wr d') os) (t1.step (next bw (below_regrown wr d' os))) (t2.step (next bw (below_regrown wr d' os))))
        have wk := IntWalk.wrap64_in ((k : Int) + 1) ⟨by omega, by have := s1.out; omega⟩
        replace hat := hide hat
        replace bw := hide bw
        clear t1 t2 r1 r2 ihk x0 x1 x2 x3 x4 x5 x6 x7 x8 x9 x10 x11 x12 x13 y0 y1 y2 y3 y4 y5 y6 y7 y8 y9 y10 y11 y12 y13
        cases hq2 : sameE tk uk
        all_goals
          rw [hq2] at kc
          go_wp2_with fail
          refine wp_region_quiet_below (by kernel_rfl) (by kernel_rfl) ?_
          repeat (go_big_quiet_step (with_reducible exact kc _ _))
          refine wpQuiet_nil ?_
          intro _ hw'
          obtain ⟨⟨dq, osq⟩, hw''⟩ := hw'
          subst hw''
          have hbz := hide (below_regrown wr dq osq)
          go_wp2_with fail
        · go_ret
          have hh := HL.out.trans hat.out
          rw [hq2] at hh
          exact ⟨by rw [hh]; rfl, next bw.out hbz.out⟩
        · refine ⟨⟨k + 1, hlt, by rw [wk]; rfl, hide (next HB.out hbz.out), hide (by rw [HL.out, hat.out, hq2]; rfl)⟩, ?_⟩
          rw [wk]
          show len1 - ((k : Int) + 1).toNat < len1 - (k : Int).toNat
          omega
      · obtain rfl : k = len1 := by omega
        go_wp2_with fail
        go_ret
        have hh := HL.out
        rw [l1.out, sameL_end _ _ (by rw [← l1.out, ← l2.out]; exact hl.out)] at hh
        exact ⟨by rw [hh]; rfl, next B2.out HB.out⟩
  · have p0 : ((len1 : Int) == (len2 : Int)) = false := by simp; omega
    have p0' : ((len1 : Int) != (len2 : Int)) = true := by rw [bne, p0]; rfl
    replace hl := hide hl
    go_enter Try.func8, Try.ntmps8
    go_wp2_with fail
    go_ret
    exact ⟨by rw [sameL_len _ _ (by rw [← l1.out, ← l2.out]; exact hl.out)]; rfl, B2.out⟩
theorem leq_any : ∀ t, LEqIs t := by
  refine Ex.ind fun n1 ks ih => ?_
  intro u v1 v2 w t1 t2
  obtain ⟨n2, ls⟩ := u
  obtain ⟨a1, len1, cap1, rfl, _, _, _, _⟩ := t1.un
  obtain ⟨a2, len2, cap2, rfl, _, _, _, _⟩ := t2.un
  by_cases h0 : n1.kind = n2.kind
  case neg => rw [sameE_no (.inl (by simp [ndB, rfB, h0]))]; exact leq_0 n1 n2 _ _ w h0
  by_cases h1 : n1.op = n2.op
  case neg => rw [sameE_no (.inl (by simp [ndB, rfB, h0, h1]))]; exact leq_1 n1 n2 _ _ w h0 h1
  by_cases h2 : n1.num = n2.num
  case neg => rw [sameE_no (.inl (by simp [ndB, rfB, h0, h1, h2]))]; exact leq_2 n1 n2 _ _ w h0 h1 h2
  by_cases h3 : n1.text = n2.text
  case neg => rw [sameE_no (.inl (by simp [ndB, rfB, h0, h1, h2, h3]))]; exact leq_3 n1 n2 _ _ w h0 h1 h2 h3
  by_cases h4 : n1.ref.row = n2.ref.row
  case neg => rw [sameE_no (.inl (by simp [ndB, rfB, h0, h1, h2, h3, h4]))]; exact leq_4 n1 n2 _ _ w h0 h1 h2 h3 h4
  by_cases h5 : n1.ref.col = n2.ref.col
  case neg => rw [sameE_no (.inl (by simp [ndB, rfB, h0, h1, h2, h3, h4, h5]))]; exact leq_5 n1 n2 _ _ w h0 h1 h2 h3 h4 h5
  by_cases h6 : n1.ref.pr = n2.ref.pr
  case neg => rw [sameE_no (.inl (by simp [ndB, rfB, h0, h1, h2, h3, h4, h5, h6]))]; exact leq_6 n1 n2 _ _ w h0 h1 h2 h3 h4 h5 h6
  by_cases h7 : n1.ref.pc = n2.ref.pc
  case neg => rw [sameE_no (.inl (by simp [ndB, rfB, h0, h1, h2, h3, h4, h5, h6, h7]))]; exact leq_7 n1 n2 _ _ w h0 h1 h2 h3 h4 h5 h6 h7
  by_cases h8 : n1.to.row = n2.to.row
  case neg => rw [sameE_no (.inl (by simp [ndB, rfB, h0, h1, h2, h3, h4, h5, h6, h7, h8]))]; exact leq_8 n1 n2 _ _ w h0 h1 h2 h3 h4 h5 h6 h7 h8
  by_cases h9 : n1.to.col = n2.to.col
  case neg => rw [sameE_no (.inl (by simp [ndB, rfB, h0, h1, h2, h3, h4, h5, h6, h7, h8, h9]))]; exact leq_9 n1 n2 _ _ w h0 h1 h2 h3 h4 h5 h6 h7 h8 h9
  by_cases h10 : n1.to.pr = n2.to.pr
  case neg => rw [sameE_no (.inl (by simp [ndB, rfB, h0, h1, h2, h3, h4, h5, h6, h7, h8, h9, h10]))]; exact leq_10 n1 n2 _ _ w h0 h1 h2 h3 h4 h5 h6 h7 h8 h9 h10
  by_cases h11 : n1.to.pc = n2.to.pc
  case neg => rw [sameE_no (.inl (by simp [ndB, rfB, h0, h1, h2, h3, h4, h5, h6, h7, h8, h9, h10, h11]))]; exact leq_11 n1 n2 _ _ w h0 h1 h2 h3 h4 h5 h6 h7 h8 h9 h10 h11
  by_cases h12 : n1.fn = n2.fn
  case neg => rw [sameE_no (.inl (by simp [ndB, rfB, h0, h1, h2, h3, h4, h5, h6, h7, h8, h9, h10, h11, h12]))]; exact leq_12 n1 n2 _ _ w h0 h1 h2 h3 h4 h5 h6 h7 h8 h9 h10 h11 h12
  obtain rfl := nd_eq h0 h1 h2 h3 h4 h5 h6 h7 h8 h9 h10 h11 h12
  have hs : sameE (.mk n1 ks) (.mk n1 ls) = sameL ks ls := by rw [sameE]; show (ndB n1 n1 && _) = _; rw [ndB_self]; rfl
  rw [hs]
  exact leq_same n1 ks ls ih a1 a2 len1 len2 cap1 cap2 w t1.kidsAt t2.kidsAt
end Go.Proofs.Ytiajoppbgebnpaa
