/- The sums of bytes, of package hash and of the reference, for every row of bytes that holds still; whether two rows are the same. Proved of the Go text. -/
import Derived.Test.YtdbdonpcdoeeiaaRBytes6
import Derived.Test.YtdbdonpcdoeeiaaLow6
namespace Go.Proofs.Ytdbdonpcdoeeiaa
open Go.RowKit Go.Sort
set_option linter.unusedVariables false

set_option maxHeartbeats 1000000 in
theorem fnv_any {w : World} {B : Nat} {v : Value} {L : List UInt8} (h : Own w B v L) (h1 : 1 ≤ L.length) (h2 : L.length ≤ 32768) :
    Calls Try.prog 19 #[v] w fun e w' => e = .returned (.int .u64 (fnvL L : Int)) ∧ w' = w := by
  obtain ⟨g, cap, cur, rfl, _, _, hcap, _, _, hcell⟩ := h.parts h1
  replace hcell := hide hcell
  have hl2 : (L.length : Int) ≤ 32768 := by omega
  go_enter Try.func19, Try.ntmps19
  go_wp2_with fail
  go_loop [3, 8] (fun s i => ∃ k : Nat, k ≤ L.length ∧ i = .int .i64 k ∧ s = .int .u64 (fnvL (L.take k) : Int)) (fun _ i => L.length - (intOf i).toNat)
  case atStart => exact ⟨0, Nat.zero_le _, rfl, rfl⟩
  case round =>
    obtain ⟨k, hk, rfl, rfl⟩ := hrel
    by_cases hlt : k < L.length
    · have c := hcell.out k hlt
      have e := hide (step_int2 (fnvL (L.take k)) L[k] (fnv_lt _))
      rw [← fnv_take L k hlt] at e
      go_wp2_with fail
      go_round
      case rel => exact ⟨k + 1, by omega, by go_num, by rw [e.out]⟩
      case measure => simp [intOf]; omega
    · obtain rfl : k = L.length := by omega
      go_wp2_with fail
      go_ret
      exact ⟨rfl, rfl⟩
set_option maxHeartbeats 1000000 in
theorem rfnv_any {w : World} {B : Nat} {v : Value} {L : List UInt8} (h : Own w B v L) (h1 : 1 ≤ L.length) (h2 : L.length ≤ 32768) :
    Calls Try.prog 20 #[v] w fun e w' => e = .returned (.int .u64 (fnvL L : Int)) ∧ w' = w := by
  obtain ⟨g, cap, cur, rfl, _, _, hcap, _, _, hcell⟩ := h.parts h1
  replace hcell := hide hcell
  have hl2 : (L.length : Int) ≤ 32768 := by omega
  go_enter Try.func20, Try.ntmps20
  go_wp2_with fail
  go_loop [3, 4] (fun s i => ∃ k : Nat, k ≤ L.length ∧ i = .int .i64 k ∧ s = .int .u64 (fnvL (L.take k) : Int)) (fun _ i => L.length - (intOf i).toNat)
  case atStart => exact ⟨0, Nat.zero_le _, rfl, rfl⟩
  case round =>
    obtain ⟨k, hk, rfl, rfl⟩ := hrel
    by_cases hlt : k < L.length
    · have c := hcell.out k hlt
      have e := hide (step_int2 (fnvL (L.take k)) L[k] (fnv_lt _))
      rw [← fnv_take L k hlt] at e
      go_wp2_with fail
      go_round
      case rel => exact ⟨k + 1, by omega, by go_num, by rw [e.out]⟩
      case measure => simp [intOf]; omega
    · obtain rfl : k = L.length := by omega
      go_wp2_with fail
      go_ret
      exact ⟨rfl, rfl⟩
set_option maxHeartbeats 1000000 in
theorem eq_any {w : World} {B B' : Nat} {v v' : Value} {L L' : List UInt8} (h : Own w B v L) (h' : Own w B' v' L') :
    Calls Try.prog 8 #[v, v'] w fun e w' => e = .returned (.bool (L == L')) ∧ w' = w := by
  have c := h.conv
  have c' := h'.conv
  go_enter Try.func8, Try.ntmps8
  go_wp2_with fail
  go_ret
  refine ⟨?_, rfl⟩
  show Ending.returned _ = _
  congr 2
set_option maxHeartbeats 1000000 in
theorem sum_no (k i : Int) (t : ByteArray) (n : Int) (h : n < 0 ∨ 64 < n) : CallIs 11 #[vV k i t, .int .i64 n] (.tuple #[.int .u64 0, .int .i64 27]) := by
  intro w
  rcases h with h | h
  · go_enter Try.func11, Try.ntmps11
    go_wp2_with fail
    go_ret2
    exact ⟨rfl, by go_grown⟩
  · have h0 : ¬ n < 0 := by omega
    go_enter Try.func11, Try.ntmps11
    go_wp2_with fail
    go_ret2
    exact ⟨rfl, by go_grown⟩
set_option maxHeartbeats 1000000 in
theorem sum_yes (k i : Int) (t : ByteArray) (n : Nat) (h : n ≤ 64) : CallIs 11 #[vV k i t, .int .i64 n] (.tuple #[.int .u64 ((fnvL (bsOf k i t) % 2 ^ n : Nat) : Int), .int .i64 0]) := by
  intro w
  have HB := bytes_any k i t
  obtain ⟨l1, l2⟩ := bsOf_len k i t
  have h0 : ¬ (n : Int) < 0 := by omega
  have h1 : ¬ (n : Int) > 64 := by omega
  have cv := O3.new w (.int .i64 k) (.int .i64 i) (.string t) 26
  have c0 := cv.1.1
  have c1 := cv.1.2.1
  have c2 := cv.1.2.2
  go_enter Try.func11, Try.ntmps11
  go_wp2_with fail
  go_region_with (first
    | (go_at_call 9; refine (HB.out _).mono ?_; rintro e w1 ⟨v1, rfl, hO1, hb1⟩)
    | (go_at_call 19; refine (fnv_any hO1 l1 l2).mono ?_; rintro e w2 ⟨rfl, rfl⟩))
  all_goals (
    go_wp2_with fail
    go_ret2
    refine ⟨?_, next (step (Below.refl w.heap.size w) _).drew hb1⟩
    show Ending.returned (Value.tuple #[.int .u64 (bits .and .u64 (fnvL (bsOf k i t) : Int) (IntKind.u64.wrap (IntKind.u64.wrap (2 ^ n) - 1))), .int .i64 0]) = _
    rw [mask_int _ n (fnv_lt _) h])
set_option maxHeartbeats 1000000 in
theorem rsum_no (k i : Int) (t : ByteArray) (n : Int) (h : n < 0 ∨ 64 < n) : CallIs 12 #[vV k i t, .int .i64 n] (.tuple #[.int .u64 0, .int .i64 27]) := by
  intro w
  rcases h with h | h
  · go_enter Try.func12, Try.ntmps12
    go_wp2_with fail
    go_ret2
    exact ⟨rfl, by go_grown⟩
  · have h0 : ¬ n < 0 := by omega
    go_enter Try.func12, Try.ntmps12
    go_wp2_with fail
    go_ret2
    exact ⟨rfl, by go_grown⟩
set_option maxHeartbeats 1000000 in
theorem rsum_0 (k i : Int) (t : ByteArray) : CallIs 12 #[vV k i t, .int .i64 0] (.tuple #[.int .u64 0, .int .i64 0]) := by
  intro w
  go_enter Try.func12, Try.ntmps12
  go_wp2_with fail
  go_ret2
  exact ⟨rfl, by go_grown⟩
set_option maxHeartbeats 1000000 in
theorem rsum_m (k i : Int) (t : ByteArray) (n : Nat) (h : n ≤ 64) (hp : 1 ≤ n) : CallIs 12 #[vV k i t, .int .i64 n] (.tuple #[.int .u64 ((fnvL (bsOf k i t) % 2 ^ n : Nat) : Int), .int .i64 0]) := by
  intro w
  have HB := rbytes_any k i t
  obtain ⟨l1, l2⟩ := bsOf_len k i t
  obtain ⟨m, hm⟩ : ∃ m : Nat, (64 : Int) - (n : Int) = (m : Int) := ⟨64 - n, by omega⟩
  have h0 : ¬ (n : Int) < 0 := by omega
  have h1 : ¬ (n : Int) > 64 := by omega
  have h2 : ((n : Int) == 0) = false := beq_eq_false_iff_ne.2 (by omega)
  have cv := O3.new w (.int .i64 k) (.int .i64 i) (.string t) 26
  have c0 := cv.1.1
  have c1 := cv.1.2.1
  have c2 := cv.1.2.2
  go_enter Try.func12, Try.ntmps12
  go_wp2_with fail
  refine (HB.out _).mono ?_
  rintro e w1 ⟨v1, rfl, hO1, hb1⟩
  replace hb1 := hide hb1
  go_wp2_with fail
  refine (rfnv_any hO1 l1 l2).mono ?_
  rintro e w2 ⟨rfl, rfl⟩
  go_wp2_with fail
  go_ret2
  refine ⟨?_, next (step (Below.refl w.heap.size w) _) hb1.out⟩
  show Ending.returned (Value.tuple #[.int .u64 (IntKind.u64.wrap ((fnvL (bsOf k i t) : Int) * 2 ^ m) / 2 ^ m), .int .i64 0]) = _
  rw [shift_int _ n m h hm]
theorem rsum_yes (k i : Int) (t : ByteArray) (n : Nat) (h : n ≤ 64) : CallIs 12 #[vV k i t, .int .i64 n] (.tuple #[.int .u64 ((fnvL (bsOf k i t) % 2 ^ n : Nat) : Int), .int .i64 0]) := by
  cases n with
  | zero =>
    have := rsum_0 k i t
    rw [Nat.pow_zero, Nat.mod_one]
    exact this
  | succ m => exact rsum_m k i t (m + 1) h (by omega)
end Go.Proofs.Ytdbdonpcdoeeiaa
