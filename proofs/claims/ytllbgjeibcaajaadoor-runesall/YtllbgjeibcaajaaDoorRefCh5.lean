/- What the reference's Char answers, for every number: proved of the Go text. -/
import Derived.Test.YtllbgjeibcaajaaDoorRefRune5b
import Derived.Test.YtllbgjeibcaajaaDoorChar5
namespace Go.Proofs.YtllbgjeibcaajaaDoor
open Go.RowKit Go.Sort
set_option linter.unusedVariables false

theorem td (a m : Nat) : (a : Int).tdiv m = ((a / m : Nat) : Int) := by rw [Int.tdiv_eq_ediv_of_nonneg (by omega)]; rfl
theorem rchar_no (n : Int) (h : ¬ isR n) : CallIs 43 #[.int .i64 n] (.tuple #[.string no, .int .i64 1]) := by
  intro w
  unfold isR at h
  by_cases h1 : n < 0
  · clear h
    go_enter Tryd.func43, Tryd.ntmps43
    go_wp2_with fail
    go_ret2
    exact ⟨rfl, Below.refl _ _⟩
  · by_cases h2 : n > 1114111
    · clear h
      go_enter Tryd.func43, Tryd.ntmps43
      go_wp2_with fail
      go_ret2
      exact ⟨rfl, Below.refl _ _⟩
    · have h3 : n ≥ 55296 := by omega
      have h4 : n ≤ 57343 := by omega
      clear h
      go_enter Tryd.func43, Tryd.ntmps43
      go_wp2_with fail
      go_ret2
      exact ⟨rfl, Below.refl _ _⟩
theorem conv_1 (w : World) (a0 : Int) : (convert 47 9 (.slice (some ⟨w.heap.size, 0, none⟩) 1 1)).run Tryd.prog (w.alloc (.cells #[.int .u8 a0] 5)) = .ok (.string (strOfNums [a0])) (w.alloc (.cells #[.int .u8 a0] 5)) :=
  run_convert_bytes_arg (P := Tryd.prog) _ 47 5 Tryd.underlying47 Tryd.underlying5 w.heap.size 0 1 1 [a0] rfl (fun i hi => by
    have : i = 0 := by omega
    rcases this with rfl
    all_goals go_simp) 9 Tryd.underlying9
set_option maxHeartbeats 1000000 in
theorem rchar_1 (n : Nat) (h : isR n) (h1 : 0 ≤ n) (h2 : n < 128)  : CallIs 43 #[.int .i64 n] (.tuple #[.string (Utf8.encode n), .int .i64 0]) := by
  intro w
  have hv := valid_of h
  have he : Hid (Utf8.encode n = strOfNums [(n : Int)]) := by
    have hn : (n : Int).toNat = n := by simp
    unfold Utf8.encode strOfNums
    simp only [hv, if_true, hn]
    rw [if_pos (show n < 128 by omega)]
    exact hide rfl
  have hcv := conv_1
  clear h hv
  have a1 : ¬ (n : Int) < 0 := by omega
  have a2 : ¬ (n : Int) > 1114111 := by omega
  have b1 : ¬ (n : Int) ≥ 55296 := by omega
  have c128 : (n : Int) < 128 := by omega
  go_enter Tryd.func43, Tryd.ntmps43
  go_wp2_with fail
  go_ret2
  refine ⟨?_, (Below.refl _ _).alloc (Nat.le_refl _) _⟩
  rw [he.out]
  rfl
theorem conv_2 (w : World) (a0 a1 : Int) : (convert 47 9 (.slice (some ⟨w.heap.size, 0, none⟩) 2 2)).run Tryd.prog (w.alloc (.cells #[.int .u8 a0, .int .u8 a1] 5)) = .ok (.string (strOfNums [a0, a1])) (w.alloc (.cells #[.int .u8 a0, .int .u8 a1] 5)) :=
  run_convert_bytes_arg (P := Tryd.prog) _ 47 5 Tryd.underlying47 Tryd.underlying5 w.heap.size 0 2 2 [a0, a1] rfl (fun i hi => by
    have : i = 0 ∨ i = 1 := by omega
    rcases this with rfl | rfl
    all_goals go_simp) 9 Tryd.underlying9
set_option maxHeartbeats 1000000 in
theorem rchar_2 (n : Nat) (h : isR n) (h1 : 128 ≤ n) (h2 : n < 2048)  : CallIs 43 #[.int .i64 n] (.tuple #[.string (Utf8.encode n), .int .i64 0]) := by
  intro w
  have hv := valid_of h
  have he : Hid (Utf8.encode n = strOfNums [192 + ((n / 64 : Nat) : Int), 128 + ((n % 64 : Nat) : Int)]) := by
    have hn : (n : Int).toNat = n := by simp
    unfold Utf8.encode strOfNums
    simp only [hv, if_true, hn]
    rw [if_neg (show ¬ n < 128 by omega), if_pos (show n < 2048 by omega)]
    exact hide rfl
  have hcv := conv_2
  clear h hv
  have a1 : ¬ (n : Int) < 0 := by omega
  have a2 : ¬ (n : Int) > 1114111 := by omega
  have b1 : ¬ (n : Int) ≥ 55296 := by omega
  have c128 : ¬ (n : Int) < 128 := by omega
  have c2048 : (n : Int) < 2048 := by omega
  have d1 := td n 64
  have d2 := tm n 64
  have d3 : (192 : Int) + ((n / 64 : Nat) : Int) ≤ 255 := by omega
  have d4 : (128 : Int) + ((n % 64 : Nat) : Int) ≤ 255 := by omega
  go_enter Tryd.func43, Tryd.ntmps43
  go_wp2_with fail
  go_ret2
  refine ⟨?_, (Below.refl _ _).alloc (Nat.le_refl _) _⟩
  rw [he.out]
  rfl
theorem conv_3 (w : World) (a0 a1 a2 : Int) : (convert 47 9 (.slice (some ⟨w.heap.size, 0, none⟩) 3 3)).run Tryd.prog (w.alloc (.cells #[.int .u8 a0, .int .u8 a1, .int .u8 a2] 5)) = .ok (.string (strOfNums [a0, a1, a2])) (w.alloc (.cells #[.int .u8 a0, .int .u8 a1, .int .u8 a2] 5)) :=
  run_convert_bytes_arg (P := Tryd.prog) _ 47 5 Tryd.underlying47 Tryd.underlying5 w.heap.size 0 3 3 [a0, a1, a2] rfl (fun i hi => by
    have : i = 0 ∨ i = 1 ∨ i = 2 := by omega
    rcases this with rfl | rfl | rfl
    all_goals go_simp) 9 Tryd.underlying9
set_option maxHeartbeats 1000000 in
theorem rchar_3lo (n : Nat) (h : isR n) (h1 : 2048 ≤ n) (h2 : n < 55296) : CallIs 43 #[.int .i64 n] (.tuple #[.string (Utf8.encode n), .int .i64 0]) := by
  intro w
  have hv := valid_of h
  have he : Hid (Utf8.encode n = strOfNums [224 + ((n / 4096 : Nat) : Int), 128 + ((n / 64 % 64 : Nat) : Int), 128 + ((n % 64 : Nat) : Int)]) := by
    have hn : (n : Int).toNat = n := by simp
    unfold Utf8.encode strOfNums
    simp only [hv, if_true, hn]
    rw [if_neg (show ¬ n < 128 by omega), if_neg (show ¬ n < 2048 by omega), if_pos (show n < 65536 by omega)]
    exact hide rfl
  have hcv := conv_3
  have h5 : n ≤ 1114111 := by have := h.2.1; omega
  clear h hv
  have a1 : ¬ (n : Int) < 0 := by omega
  have a2 : ¬ (n : Int) > 1114111 := by omega
  have b1 : ¬ (n : Int) ≥ 55296 := by omega
  have c128 : ¬ (n : Int) < 128 := by omega
  have c2048 : ¬ (n : Int) < 2048 := by omega
  have c65536 : (n : Int) < 65536 := by omega
  have d1 := td n 4096
  have d2 := td n 64
  have d3 := tm n 64
  have d4 := tm (n / 64) 64
  have e0 : (224 : Int) + ((n / 4096 : Nat) : Int) ≤ 255 := by omega
  have e1 : (128 : Int) + ((n / 64 % 64 : Nat) : Int) ≤ 255 := by omega
  have e2 : (128 : Int) + ((n % 64 : Nat) : Int) ≤ 255 := by omega
  go_enter Tryd.func43, Tryd.ntmps43
  go_wp2_with fail
  go_ret2
  refine ⟨?_, (Below.refl _ _).alloc (Nat.le_refl _) _⟩
  rw [he.out]
  rfl
set_option maxHeartbeats 1000000 in
theorem rchar_3hi (n : Nat) (h : isR n) (h1 : 57343 < n) (h2 : n < 65536) : CallIs 43 #[.int .i64 n] (.tuple #[.string (Utf8.encode n), .int .i64 0]) := by
  intro w
  have hv := valid_of h
  have he : Hid (Utf8.encode n = strOfNums [224 + ((n / 4096 : Nat) : Int), 128 + ((n / 64 % 64 : Nat) : Int), 128 + ((n % 64 : Nat) : Int)]) := by
    have hn : (n : Int).toNat = n := by simp
    unfold Utf8.encode strOfNums
    simp only [hv, if_true, hn]
    rw [if_neg (show ¬ n < 128 by omega), if_neg (show ¬ n < 2048 by omega), if_pos (show n < 65536 by omega)]
    exact hide rfl
  have hcv := conv_3
  have h5 : n ≤ 1114111 := by have := h.2.1; omega
  clear h hv
  have a1 : ¬ (n : Int) < 0 := by omega
  have a2 : ¬ (n : Int) > 1114111 := by omega
  have b1 : (n : Int) ≥ 55296 := by omega
  have b2 : ¬ (n : Int) ≤ 57343 := by omega
  have c128 : ¬ (n : Int) < 128 := by omega
  have c2048 : ¬ (n : Int) < 2048 := by omega
  have c65536 : (n : Int) < 65536 := by omega
  have d1 := td n 4096
  have d2 := td n 64
  have d3 := tm n 64
  have d4 := tm (n / 64) 64
  have e0 : (224 : Int) + ((n / 4096 : Nat) : Int) ≤ 255 := by omega
  have e1 : (128 : Int) + ((n / 64 % 64 : Nat) : Int) ≤ 255 := by omega
  have e2 : (128 : Int) + ((n % 64 : Nat) : Int) ≤ 255 := by omega
  go_enter Tryd.func43, Tryd.ntmps43
  go_wp2_with fail
  go_ret2
  refine ⟨?_, (Below.refl _ _).alloc (Nat.le_refl _) _⟩
  rw [he.out]
  rfl
theorem conv_4 (w : World) (a0 a1 a2 a3 : Int) : (convert 47 9 (.slice (some ⟨w.heap.size, 0, none⟩) 4 4)).run Tryd.prog (w.alloc (.cells #[.int .u8 a0, .int .u8 a1, .int .u8 a2, .int .u8 a3] 5)) = .ok (.string (strOfNums [a0, a1, a2, a3])) (w.alloc (.cells #[.int .u8 a0, .int .u8 a1, .int .u8 a2, .int .u8 a3] 5)) :=
  run_convert_bytes_arg (P := Tryd.prog) _ 47 5 Tryd.underlying47 Tryd.underlying5 w.heap.size 0 4 4 [a0, a1, a2, a3] rfl (fun i hi => by
    have : i = 0 ∨ i = 1 ∨ i = 2 ∨ i = 3 := by omega
    rcases this with rfl | rfl | rfl | rfl
    all_goals go_simp) 9 Tryd.underlying9
set_option maxHeartbeats 1000000 in
theorem rchar_4 (n : Nat) (h : isR n) (h1 : 65536 ≤ n) : CallIs 43 #[.int .i64 n] (.tuple #[.string (Utf8.encode n), .int .i64 0]) := by
  intro w
  have hv := valid_of h
  have he : Hid (Utf8.encode n = strOfNums [240 + ((n / 262144 : Nat) : Int), 128 + ((n / 4096 % 64 : Nat) : Int), 128 + ((n / 64 % 64 : Nat) : Int), 128 + ((n % 64 : Nat) : Int)]) := by
    have hn : (n : Int).toNat = n := by simp
    unfold Utf8.encode strOfNums
    simp only [hv, if_true, hn]
    rw [if_neg (show ¬ n < 128 by omega), if_neg (show ¬ n < 2048 by omega), if_neg (show ¬ n < 65536 by omega)]
    exact hide rfl
  have hcv := conv_4
  have h5 : n ≤ 1114111 := by have := h.2.1; omega
  clear h hv
  have a1 : ¬ (n : Int) < 0 := by omega
  have a2 : ¬ (n : Int) > 1114111 := by omega
  have b1 : (n : Int) ≥ 55296 := by omega
  have b2 : ¬ (n : Int) ≤ 57343 := by omega
  have c128 : ¬ (n : Int) < 128 := by omega
  have c2048 : ¬ (n : Int) < 2048 := by omega
  have c65536 : ¬ (n : Int) < 65536 := by omega
  have d0 := td n 262144
  have d1 := td n 4096
  have d2 := td n 64
  have d3 := tm n 64
  have d4 := tm (n / 64) 64
  have d5 := tm (n / 4096) 64
  have e0 : (240 : Int) + ((n / 262144 : Nat) : Int) ≤ 255 := by omega
  have e1 : (128 : Int) + ((n / 4096 % 64 : Nat) : Int) ≤ 255 := by omega
  have e2 : (128 : Int) + ((n / 64 % 64 : Nat) : Int) ≤ 255 := by omega
  have e3 : (128 : Int) + ((n % 64 : Nat) : Int) ≤ 255 := by omega
  go_enter Tryd.func43, Tryd.ntmps43
  go_wp2_with fail
  go_ret2
  refine ⟨?_, (Below.refl _ _).alloc (Nat.le_refl _) _⟩
  rw [he.out]
  rfl
theorem rchar_yes (n : Nat) (h : isR n) : CallIs 43 #[.int .i64 n] (.tuple #[.string (Utf8.encode n), .int .i64 0]) := by
  by_cases c1 : n < 128
  · exact rchar_1 n h (Nat.zero_le _) c1
  · by_cases c2 : n < 2048
    · exact rchar_2 n h (by omega) c2
    · by_cases c3 : n < 65536
      · by_cases c4 : n < 55296
        · exact rchar_3lo n h (by omega) c4
        · exact rchar_3hi n h (by have := h.2.2; omega) c3
      · exact rchar_4 n h (by omega)
end Go.Proofs.YtllbgjeibcaajaaDoor
