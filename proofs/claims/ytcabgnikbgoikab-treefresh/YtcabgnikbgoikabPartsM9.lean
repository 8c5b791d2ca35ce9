/- What a tree's parts make together. -/
import Derived.Test.YtcabgnikbgoikabBegun9
import Derived.Test.YtcabgnikbgoikabAreas9
namespace Go.Proofs.Ytcabgnikbgoikab
open Go.RowKit Go.Sort
set_option linter.unusedVariables false

theorem meas_lt {len k : Nat} (h : k < len) : len - (intOf (.int .i64 ((k : Int) + 1))).toNat < len - (intOf (.int .i64 (k : Int))).toNat := by
  show len - ((k : Int) + 1).toNat < len - (k : Int).toNat
  omega
theorem zero_both {T R : Nat} (h : T + R ≤ 0) : T = 0 ∧ R = 0 := by omega
theorem zero_right {T R : Nat} (h : T + R ≤ T) : R = 0 := by omega
theorem zero_le_sum (T R : Nat) : (0 : Int) ≤ (T : Int) + (R : Int) := by omega
theorem le_sum (T R : Nat) : (T : Int) ≤ (T : Int) + (R : Int) := by omega
theorem nodesL_snoc : ∀ (l : List Ex) (x : Ex), nodesL (l ++ [x]) = nodesL l + nodesE x
  | [], x => by simp [nodesL]
  | k :: r, x => by rw [List.cons_append, nodesL, nodesL, nodesL_snoc r x]; omega
theorem bytesL_snoc : ∀ (l : List Ex) (x : Ex), bytesL (l ++ [x]) = bytesL l + bytesE x
  | [], x => by simp [bytesL]
  | k :: r, x => by rw [List.cons_append, bytesL, bytesL, bytesL_snoc r x]; omega
theorem depthL_snoc : ∀ (l : List Ex) (x : Ex), depthL (l ++ [x]) = max (depthL l) (depthE x)
  | [], x => by simp [depthL]
  | k :: r, x => by rw [List.cons_append, depthL, depthL, depthL_snoc r x]; omega
theorem readsL_snoc : ∀ (l : List Ex) (x : Ex), readsL (l ++ [x]) = readsL l ++ readsE x
  | [], x => by simp [readsL]
  | k :: r, x => by rw [List.cons_append, readsL, readsL, readsL_snoc r x, List.append_assoc]
theorem readsL_app : ∀ (l m : List Ex), readsL (l ++ m) = readsL l ++ readsL m
  | [], m => by simp [readsL]
  | k :: r, m => by rw [List.cons_append, readsL, readsL, readsL_app r m, List.append_assoc]
theorem bytes_mem : ∀ {ks : List Ex} {k : Ex}, k ∈ ks → bytesE k ≤ bytesL ks
  | [], k, h => by cases h
  | x :: r, k, h => by
    rw [bytesL]
    rcases List.mem_cons.1 h with rfl | h
    · omega
    · have := bytes_mem h; omega
theorem all_kid : ∀ {ks : List Ex} {k : Ex}, allL ks = true → k ∈ ks → allE k = true
  | [], k, _, h => by cases h
  | x :: r, k, ha, h => by
    rw [allL, Bool.and_eq_true] at ha
    rcases List.mem_cons.1 h with rfl | h
    · exact ha.1
    · exact all_kid ha.2 h
theorem fit_kid {nd : Nd} {ks : List Ex} {k : Ex} (h : fitB (.mk nd ks) = true) (hk : k ∈ ks) : fitB k = true := by
  have h := of_decide_eq_true h
  rw [nodesE, depthE, bytesE] at h
  have h1 := nodes_mem hk
  have h2 := depth_mem hk
  have h3 := bytes_mem hk
  exact decide_eq_true ⟨by omega, by omega, by omega⟩
theorem sizeR_fit {t : Ex} (h : fitB t = true) : sizeR t = ((nodesE t : Int), (depthE t : Int), (bytesE t : Int)) := by unfold sizeR; rw [h]; rfl
theorem sizeR_no {t : Ex} (h : fitB t = false) : sizeR t = (513, 65, 16385) := by unfold sizeR; rw [h]; rfl
theorem mayR_no {t : Ex} (h : fitB t = false) : mayR t = 2 := by unfold mayR; rw [h]; rfl
theorem mayR_two {t : Ex} (h : fitB t = true) (h2 : allE t = false) : mayR t = 22 := by unfold mayR; rw [h, h2]; rfl
theorem mayR_ok {t : Ex} (h : fitB t = true) (h2 : allE t = true) : mayR t = 0 := by unfold mayR; rw [h, h2]; rfl
theorem reads_no {w w' : World} {t : Ex} {e : Ending} (h : ReadsP w t e w') (h2 : mayR t = 22) : e = .returned (.tuple #[.slice none 0 0, .int .i64 22]) ∧ Below w.heap.size w w' := by
  rcases h with ⟨_, he, hb⟩ | ⟨h, _⟩
  · rw [h2] at he; exact ⟨he, hb⟩
  · rw [h2] at h; cases h
theorem reads_yes {w w' : World} {t : Ex} {e : Ending} (h : ReadsP w t e w') (h2 : mayR t = 0) : ∃ a len cap, e = .returned (.tuple #[.slice a len cap, .int .i64 0]) ∧ RowA w' (w.heap.size) (.slice a len cap) (readsE t) ∧ Below w.heap.size w w' := by
  rcases h with ⟨h, _⟩ | ⟨_, h⟩
  · exact absurd h2 h
  · exact h
end Go.Proofs.Ytcabgnikbgoikab
