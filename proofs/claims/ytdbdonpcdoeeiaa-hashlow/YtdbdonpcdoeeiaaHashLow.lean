/- HashLow: what the law answers, for every value and width: true. Proved of the Go text. -/
import Derived.Test.YtdbdonpcdoeeiaaBegun6
namespace Go.Proofs.Ytdbdonpcdoeeiaa
open Go.RowKit Go.Sort
set_option linter.unusedVariables false

def lowN (f j : Nat) : Nat := f % 2 ^ j
theorem low_step (f j : Nat) (hf : f < 18446744073709551616) (hj : j < 64) : bits .or .u64 (lowN f j : Int) (bits .and .u64 (f : Int) (IntKind.u64.wrap (2 ^ j))) = (lowN f (j + 1) : Int) := bit_int f j hf hj
theorem low_0 (f : Nat) : lowN f 0 = 0 := by unfold lowN; rw [Nat.pow_zero, Nat.mod_one]
theorem sum_low (k i : Int) (t : ByteArray) (m : Nat) (h : m ≤ 64) : CallIs 11 #[vV k i t, .int .i64 m] (.tuple #[.int .u64 (lowN (fnvL (bsOf k i t)) m : Int), .int .i64 0]) := sum_yes k i t m h
theorem sum_all (k i : Int) (t : ByteArray) : CallIs 11 #[vV k i t, .int .i64 64] (.tuple #[.int .u64 (fnvL (bsOf k i t) : Int), .int .i64 0]) := by
  have h := sum_yes k i t 64 (Nat.le_refl _)
  rw [Nat.mod_eq_of_lt (fnv_lt _)] at h
  exact h
set_option maxHeartbeats 2000000 in
theorem hashLow_no (k i : Int) (t : ByteArray) (n : Int) (W : World) (h : n < 0 ∨ 64 < n) :
    Calls Try.prog 4 #[vV k i t, .int .i64 n] W fun e w' => e = .returned (.bool true) ∧ Below W.heap.size W w' := by
  have H1 := begun_is
  have H2 := sum_no k i t n h
  have hb : Hid ((n < 0 ∧ ¬ 0 ≤ n) ∨ (¬ n < 0 ∧ 64 < n)) := by rcases h with h | h; exact .inl ⟨h, by omega⟩; exact .inr ⟨by omega, h⟩
  clear h
  go_enter Try.func4, Try.ntmps4
  go_wp2_with fail
  refine (H1.out _).mono ?_
  rintro e w1 ⟨rfl, hb1⟩
  have B1 := hide (next (step (Below.refl W.heap.size W) _) hb1)
  have cv := hide ((O3.new W (.int .i64 k) (.int .i64 i) (.string t) 26).keep hb1)
  clear hb1
  have c0 := cv.out.1.1
  have c1 := cv.out.1.2.1
  have c2 := cv.out.1.2.2
  go_wp2_with fail
  refine (H2.out _).mono ?_
  rintro e w2 ⟨rfl, hb2⟩
  have B2 := hide (next B1.out hb2)
  clear hb2 c0 c1 c2
  rcases hb.out with ⟨h, h0⟩ | ⟨h0, h⟩
  · go_wp2_with fail
    go_ret
    exact ⟨rfl, B2.out⟩
  · go_wp2_with fail
    go_ret
    exact ⟨rfl, B2.out⟩
set_option maxHeartbeats 4000000 in
theorem hashLow_yes (k i : Int) (t : ByteArray) (m : Nat) (W : World) (h : m ≤ 64) :
    Calls Try.prog 4 #[vV k i t, .int .i64 m] W fun e w' => e = .returned (.bool true) ∧ Below W.heap.size W w' := by
  have H1 := begun_is
  have H2 := sum_low k i t m h
  have H3 := sum_all k i t
  have H4 := bytes_any k i t
  obtain ⟨l1, l2⟩ := bsOf_len k i t
  generalize bsOf k i t = L at *
  have hf := fnv_lt L
  have hfn : ∀ j (hj : j < L.length), Hid (IntKind.u64.wrap (bits .xor .u64 (fnvL (L.take j) : Int) (IntKind.u64.wrap (L[j].toNat : Int)) * 1099511628211) = (fnvL (L.take (j + 1)) : Int)) := fun j hj => by
    have := step_int2 (fnvL (L.take j)) L[j] (fnv_lt _)
    rw [← fnv_take L j hj] at this
    exact hide this
  obtain ⟨f, ef⟩ : ∃ f, f = fnvL L := ⟨_, rfl⟩
  rw [← ef] at H2 H3 hf
  replace ef := hide ef
  replace hf := hide hf
  replace l1 := hide l1
  replace l2 := hide l2
  have h0 : ¬ (m : Int) < 0 := by omega
  have h1 : ¬ (m : Int) > 64 := by omega
  replace h := hide h
  go_enter Try.func4, Try.ntmps4
  go_wp2_with fail
  refine (H1.out _).mono ?_
  rintro e w1 ⟨rfl, hb1⟩
  have B1 := hide (next (step (Below.refl W.heap.size W) _) hb1)
  have cv := hide ((O3.new W (.int .i64 k) (.int .i64 i) (.string t) 26).keep hb1)
  clear hb1
  have c0 := cv.out.1.1
  have c1 := cv.out.1.2.1
  have c2 := cv.out.1.2.2
  go_wp2_with fail
  refine (H2.out _).mono ?_
  rintro e w2 ⟨rfl, hb2⟩
  have B2 := hide (next B1.out hb2)
  replace cv := hide (cv.out.keep hb2)
  clear hb2 c0 c1 c2
  have c0 := cv.out.1.1
  have c1 := cv.out.1.2.1
  have c2 := cv.out.1.2.2
  go_wp2_with fail
  refine (H3.out _).mono ?_
  rintro e w3 ⟨rfl, hb3⟩
  have B3 := hide (next B2.out hb3)
  replace cv := hide (cv.out.keep hb3)
  clear hb3 c0 c1 c2
  have c0 := cv.out.1.1
  have c1 := cv.out.1.2.1
  have c2 := cv.out.1.2.2
  go_wp2_with fail
  refine (H4.out _).mono ?_
  rintro e w4 ⟨v, rfl, hO, hb4⟩
  have B4 := hide (next B3.out hb4)
  clear hb4 c0 c1 c2
  obtain ⟨g, cap, cur, rfl, _, _, hcap, _, _, hcell⟩ := hO.parts l1.out
  replace hcell := hide hcell
  have hl : ((L.length : Int) == 0) = false := beq_eq_false_iff_ne.2 (by have := l1.out; omega)
  have hl2 : (L.length : Int) ≤ 32768 := by have := l2.out; omega
  clear hO
  go_wp2_with fail
  go_loop [10, 11] (fun s i => ∃ k : Nat, k ≤ L.length ∧ i = .int .i64 k ∧ s = .int .u64 (fnvL (L.take k) : Int)) (fun _ i => L.length - (intOf i).toNat)
  case atStart => exact ⟨0, Nat.zero_le _, rfl, rfl⟩
  case round =>
    obtain ⟨j, hj, rfl, rfl⟩ := hrel
    by_cases hlt : j < L.length
    · have c := hcell.out j hlt
      have e := hfn j hlt
      go_wp2_with fail
      go_round
      case rel => exact ⟨j + 1, by omega, by go_num, by rw [e.out]⟩
      case measure => simp [intOf]; omega
    · obtain rfl : j = L.length := by omega
      have e : fnvL (L.take L.length) = f := by rw [List.take_length, ef.out]
      rw [e]
      clear e
      go_wp2_with fail
      go_loop [12, 13] (fun s i => ∃ k : Nat, k ≤ m ∧ i = .int .i64 k ∧ s = .int .u64 (lowN f k : Int)) (fun _ i => m - (intOf i).toNat)
      case atStart => exact ⟨0, Nat.zero_le _, rfl, by rw [low_0]; rfl⟩
      case round =>
        obtain ⟨j, hj, rfl, rfl⟩ := hrel
        by_cases hlt : j < m
        · have e := hide (low_step f j hf.out (by have := h.out; omega))
          go_wp2_with fail
          go_round
          case rel => exact ⟨j + 1, by omega, by go_num, by rw [e.out]⟩
          case measure => simp [intOf]; omega
        · obtain rfl : j = m := by omega
          go_wp2_with fail
          go_ret
          exact ⟨rfl, B4.out⟩
theorem hashLow_walk (k i : Int) (t : ByteArray) (n : Int) (W : World) :
    Calls Try.prog 4 #[vV k i t, .int .i64 n] W fun e w' => e = .returned (.bool true) ∧ Below W.heap.size W w' := by
  by_cases h : n < 0 ∨ 64 < n
  · exact hashLow_no k i t n W h
  · obtain ⟨m, rfl⟩ := Int.eq_ofNat_of_zero_le (show 0 ≤ n by omega)
    exact hashLow_yes k i t m W (by omega)
end Go.Proofs.Ytdbdonpcdoeeiaa
