/- Small facts on sizes, kids and leaves of trees; no Go in sight. -/
import Derived.Test.YtiajoppbgebnpaaMay9
import Derived.Test.YtiajoppbgebnpaaCopy9
namespace Go.Proofs.Ytiajoppbgebnpaa
open Go.RowKit Go.Sort
set_option linter.unusedVariables false

theorem meas_lt {len k : Nat} (h : k < len) : len - (intOf (.int .i64 ((k : Int) + 1))).toNat < len - (intOf (.int .i64 (k : Int))).toNat := by
  show len - ((k : Int) + 1).toNat < len - (k : Int).toNat
  omega
theorem zero_both {T R : Nat} (h : T + R ≤ 0) : T = 0 ∧ R = 0 := by omega
theorem zero_right {T R : Nat} (h : T + R ≤ T) : R = 0 := by omega
theorem zero_le_sum (T R : Nat) : (0 : Int) ≤ (T : Int) + (R : Int) := by omega
theorem le_sum (T R : Nat) : (T : Int) ≤ (T : Int) + (R : Int) := by omega
theorem nodesL_snoc : ∀ (l : List Ex) (x : Ex), nodesL (l ++ [x]) = nodesL l + nodesE x
  | [], x => by simp [nodesL]
  | k :: r, x => by rw [List.cons_append, nodesL, nodesL, nodesL_snoc r x]; omega
theorem bytesL_snoc : ∀ (l : List Ex) (x : Ex), bytesL (l ++ [x]) = bytesL l + bytesE x
  | [], x => by simp [bytesL]
  | k :: r, x => by rw [List.cons_append, bytesL, bytesL, bytesL_snoc r x]; omega
theorem depthL_snoc : ∀ (l : List Ex) (x : Ex), depthL (l ++ [x]) = max (depthL l) (depthE x)
  | [], x => by simp [depthL]
  | k :: r, x => by rw [List.cons_append, depthL, depthL, depthL_snoc r x]; omega
theorem bytes_mem : ∀ {ks : List Ex} {k : Ex}, k ∈ ks → bytesE k ≤ bytesL ks
  | [], k, h => by cases h
  | x :: r, k, h => by
    rw [bytesL]
    rcases List.mem_cons.1 h with rfl | h
    · omega
    · have := bytes_mem h; omega
theorem all_kid : ∀ {ks : List Ex} {k : Ex}, allL ks = true → k ∈ ks → allE k = true
  | [], k, _, h => by cases h
  | x :: r, k, ha, h => by
    rw [allL, Bool.and_eq_true] at ha
    rcases List.mem_cons.1 h with rfl | h
    · exact ha.1
    · exact all_kid ha.2 h
theorem fit_kid {nd : Nd} {ks : List Ex} {k : Ex} (h : fitB (.mk nd ks) = true) (hk : k ∈ ks) : fitB k = true := by
  have h := of_decide_eq_true h
  rw [nodesE, depthE, bytesE] at h
  have h1 := nodes_mem hk
  have h2 := depth_mem hk
  have h3 := bytes_mem hk
  exact decide_eq_true ⟨by omega, by omega, by omega⟩
theorem sizeR_fit {t : Ex} (h : fitB t = true) : sizeR t = ((nodesE t : Int), (depthE t : Int), (bytesE t : Int)) := by unfold sizeR; rw [h]; rfl
theorem sizeR_no {t : Ex} (h : fitB t = false) : sizeR t = (513, 65, 16385) := by unfold sizeR; rw [h]; rfl
theorem mayR_no {t : Ex} (h : fitB t = false) : mayR t = 2 := by unfold mayR; rw [h]; rfl
theorem mayR_two {t : Ex} (h : fitB t = true) (h2 : allE t = false) : mayR t = 22 := by unfold mayR; rw [h, h2]; rfl
theorem mayR_ok {t : Ex} (h : fitB t = true) (h2 : allE t = true) : mayR t = 0 := by unfold mayR; rw [h, h2]; rfl
theorem leaf_tree (w : World) (n : Nd) (h : n.text.size ≤ 4611686018427387904) : Tree w (exV n (.slice none 0 0)) (.mk n []) := by
  unfold Tree In
  exact ⟨none, 0, 0, rfl, rfl, by omega, h, .inl rfl⟩
theorem leaf_in (m : Nat → Prop) (w : World) (n : Nd) (h : n.text.size ≤ 4611686018427387904) : In m w (exV n (.slice none 0 0)) (.mk n []) := by
  unfold In
  exact ⟨none, 0, 0, rfl, rfl, by omega, h, .inl rfl⟩
end Go.Proofs.Ytiajoppbgebnpaa
