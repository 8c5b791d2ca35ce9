/- For each kind of call that answers a text and an error: the program and the reference answer the same. No Go is walked here: the contracts are put together. -/
import Derived.Test.YtllbgjeibcaajaaDoorOp5
import Derived.Test.YtllbgjeibcaajaaDoorRefU5
import Derived.Test.YtllbgjeibcaajaaDoorRefCh5
import Derived.Test.YtllbgjeibcaajaaDoorRefTr5
import Derived.Test.YtllbgjeibcaajaaDoorRefSw5
import Derived.Test.YtllbgjeibcaajaaDoorRefTu5
namespace Go.Proofs.YtllbgjeibcaajaaDoor
open Go.RowKit Go.Sort
set_option linter.unusedVariables false

/-- one and meant answer the same of this call. -/
def Pair (k : Int) (s t u : ByteArray) (n m : Int) : Prop := ∃ S E, CallT 18 #[opV k s t u n m] (.tuple #[.string S, .int .i64 E]) ∧ CallT 19 #[opV k s t u n m] (.tuple #[.string S, .int .i64 E])
theorem pair_2 (s t u : ByteArray) (n m : Int) (hs : s.size ≤ 200000) (hn : n ≤ 9223372036854775807) : Pair 2 s t u n m := by
  by_cases h : n < 0
  · exact ⟨_, _, one_2 s t u n m _ _ (left_no s n h).t, meant_2 s t u n m _ _ (rleft_no s n h).t⟩
  · exact ⟨_, _, one_2 s t u n m _ _ (left_yes s n (by omega) (by omega) hn).t, meant_2 s t u n m _ _ (rleft_yes s n hs (by omega)).t⟩
theorem pair_3 (s t u : ByteArray) (n m : Int) (hs : s.size ≤ 200000) (hn : n ≤ 9223372036854775807) : Pair 3 s t u n m := by
  by_cases h : n < 0
  · exact ⟨_, _, one_3 s t u n m _ _ (right_no s n h).t, meant_3 s t u n m _ _ (rright_no s n h).t⟩
  · exact ⟨_, _, one_3 s t u n m _ _ (right_yes s n (by omega) (by omega) hn).t, meant_3 s t u n m _ _ (rright_yes s n hs (by omega)).t⟩
theorem pair_4 (s t u : ByteArray) (n m : Int) (hs : s.size ≤ 200000) (hn : n ≤ 9223372036854775807) (hm : m ≤ 9223372036854775807) : Pair 4 s t u n m := by
  by_cases h : n < 1 ∨ m < 0
  · exact ⟨_, _, one_4 s t u n m _ _ (mid_no s n m h).t, meant_4 s t u n m _ _ (rmid_no s n m h).t⟩
  · have h1 : 1 ≤ n := by omega
    have h2 : 0 ≤ m := by omega
    by_cases hf : n > (rc s 0 : Int)
    · exact ⟨_, _, one_4 s t u n m _ _ (mid_yes s n m (by omega) h1 hn h2 hm).t, meant_4 s t u n m _ _ (rmid_far s n m hs h1 h2 hf).t⟩
    · obtain ⟨a, rfl⟩ : ∃ a : Nat, n = (a : Int) + 1 := ⟨(n - 1).toNat, by omega⟩
      have ha : a < rc s 0 := by omega
      have H1 := mid_yes s ((a : Int) + 1) m (by omega) h1 hn h2 hm
      rw [show ((a : Int) + 1 - 1).toNat = a by omega] at H1
      by_cases hb : m < (rc s 0 : Int) - a
      · exact ⟨_, _, one_4 s t u _ m _ _ H1.t, meant_4 s t u _ m _ _ (rmid_near s a (a + m.toNat) m hs ha h2 (.inl ⟨hb, by omega⟩)).t⟩
      · exact ⟨_, _, one_4 s t u _ m _ _ H1.t, meant_4 s t u _ m _ _ (rmid_near s a (rc s 0) m hs ha h2 (.inr ⟨hb, rfl⟩)).t⟩
theorem pair_5 (s t u : ByteArray) (n m : Int) (hs : s.size ≤ 200000) : Pair 5 s t u n m := ⟨_, _, one_5 s t u n m _ (upper_any s hs).t, meant_5 s t u n m _ (rupper_any s hs).t⟩
theorem pair_6 (s t u : ByteArray) (n m : Int) (hs : s.size ≤ 200000) : Pair 6 s t u n m := ⟨_, _, one_6 s t u n m _ (lower_any s hs).t, meant_6 s t u n m _ (rlower_any s hs).t⟩
theorem pair_7 (s t u : ByteArray) (n m : Int) (hs : s.size ≤ 200000) : Pair 7 s t u n m := ⟨_, _, one_7 s t u n m _ (trim_any s hs).t, meant_7 s t u n m _ (rtrim_any s hs).t⟩
theorem pair_8 (s t u : ByteArray) (n m : Int) (hs : s.size ≤ 200000) : Pair 8 s t u n m := ⟨_, _, one_8 s t u n m _ (turn_any s hs).t, meant_8 s t u n m _ (rturn_any s hs).t⟩
theorem pair_10 (s t u : ByteArray) (n m : Int) (hs : s.size ≤ 200000) (ht : t.size ≤ 200000) (hu : u.size ≤ 200000) : Pair 10 s t u n m := by
  by_cases h0 : 0 < t.size
  · have H1 := swap_any s t u hs ht hu h0
    have H2 := (rswap_any s t u hs ht hu h0).t
    by_cases h : (swB s t u).size > 32767
    · rw [if_pos h] at H1 H2
      exact ⟨_, _, one_10 s t u n m _ _ H1, meant_10 s t u n m _ _ H2⟩
    · rw [if_neg h] at H1 H2
      exact ⟨_, _, one_10 s t u n m _ _ H1, meant_10 s t u n m _ _ H2⟩
  · obtain rfl := no_of (show t.size = 0 by omega)
    exact ⟨_, _, one_10 s no u n m _ _ (swap_empty s u).t, meant_10 s no u n m _ _ (rswap_empty s u).t⟩
theorem pair_11 (s t u : ByteArray) (n m : Int) : Pair 11 s t u n m := by
  by_cases h : n < 0
  · exact ⟨_, _, one_11 s t u n m _ _ (times_no s n h).t, meant_11 s t u n m _ _ (rtimes_no s n h).t⟩
  · obtain ⟨k, rfl⟩ : ∃ k : Nat, n = (k : Int) := ⟨n.toNat, by omega⟩
    by_cases h0 : 0 < s.size
    · by_cases h1 : k ≤ 32767 / s.size
      · by_cases hk : 0 < k
        · exact ⟨_, _, one_11 s t u _ m _ _ (times_yes s k h0 h1).t, meant_11 s t u _ m _ _ (rtimes_yes s k hk h0 h1).t⟩
        · obtain rfl : k = 0 := by omega
          exact ⟨_, _, one_11 s t u _ m _ _ (times_yes s 0 h0 h1).t, meant_11 s t u _ m _ _ (rtimes_zero s h0).t⟩
      · exact ⟨_, _, one_11 s t u _ m _ _ (times_long s k h0 (by omega)).t, meant_11 s t u _ m _ _ (rtimes_long s k h0 (by omega)).t⟩
    · obtain rfl := no_of (show s.size = 0 by omega)
      exact ⟨_, _, one_11 no t u _ m _ _ (times_empty k (by omega)).t, meant_11 no t u _ m _ _ (rtimes_empty k (by omega)).t⟩
theorem pair_13 (s t u : ByteArray) (n m : Int) : Pair 13 s t u n m := by
  by_cases h : isR n
  · obtain ⟨k, rfl⟩ : ∃ k : Nat, n = (k : Int) := ⟨n.toNat, by have := h.1; omega⟩
    exact ⟨_, _, one_13 s t u _ m _ _ (char_yes k h).t, meant_13 s t u _ m _ _ (rchar_yes k h).t⟩
  · exact ⟨_, _, one_13 s t u n m _ _ (char_no n h).t, meant_13 s t u n m _ _ (rchar_no n h).t⟩
/-- Find, by the program and by the reference. -/
theorem pair_9 (s t : ByteArray) (n : Int) (hs : s.size ≤ 200000) : ∃ a b : Int, CallT 7 #[.string t, .string s, .int .i64 n] (.tuple #[.int .i64 a, .int .i64 b]) ∧ CallT 15 #[.string t, .string s, .int .i64 n] (.tuple #[.int .i64 a, .int .i64 b]) := by
  by_cases h : n < 1 ∨ n > (rc s 0 : Int) + 1
  · exact ⟨_, _, (find_no t s n hs h).t, (rfind_no t s n hs h).t⟩
  · obtain ⟨k, rfl⟩ : ∃ k : Nat, n = (k : Int) := ⟨n.toNat, by omega⟩
    have H1 := find_yes t s k hs (by omega) (by omega)
    have H2 := (rfind_yes t s k hs (by omega) (by omega)).t
    cases hf : fnd s t (rc s 0 + 2 - k) k with
    | none => rw [hf] at H1 H2; exact ⟨_, _, H1, H2⟩
    | some x => rw [hf] at H1 H2; exact ⟨_, _, H1, H2⟩
/-- Code, by the program and by the reference. -/
theorem pair_12 (s : ByteArray) (hs : s.size ≤ 200000) : ∃ a b : Int, CallT 8 #[.string s] (.tuple #[.int .i64 a, .int .i64 b]) ∧ CallT 16 #[.string s] (.tuple #[.int .i64 a, .int .i64 b]) := by
  by_cases h0 : 0 < s.size
  · exact ⟨_, _, (code_yes s h0).t, (rcode_yes s hs h0).t⟩
  · obtain rfl := no_of (show s.size = 0 by omega)
    exact ⟨_, _, code_no.t, rcode_no.t⟩
end Go.Proofs.YtllbgjeibcaajaaDoor
