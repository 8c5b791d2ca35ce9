/- RunesTimes: n times a text and m times it are n + m times it, as long as that may be: the law returns true, for every input. Proved of the Go text. -/
import Derived.Test.YtllbgjeibcaajaaBegun5
import Derived.Test.YtllbgjeibcaajaaTimes5
namespace Go.Proofs.Ytllbgjeibcaajaa
open Go.RowKit Go.Sort
set_option linter.unusedVariables false

theorem rep_add (s : ByteArray) (n m : Nat) : rep s n ++ rep s m = rep s (n + m) := by
  apply ByteArray.ext
  unfold rep
  rw [Lib.repeatL_add, ByteArray.data_append]
  simp
theorem rep_size (s : ByteArray) (n : Nat) : (rep s n).size = n * s.size := by
  show (Lib.repeatL s.data.toList n).toArray.size = _
  rw [List.size_toArray, Lib.repeatL_length, ← Lib.size_eq]
set_option maxHeartbeats 1000000 in
set_option maxRecDepth 100000 in
theorem runesTimes_walk (s : ByteArray) (n m : Nat) (hn : n ≤ 65535) (hm : m ≤ 65535) (w : World) (hT : Tab w) :
    Calls Try.prog 7 #[.string s, .int .u16 n, .int .u16 m] w fun e w' => e = .returned (.bool true) ∧ Below w.heap.size w w' := by
  have HB := begun_any
  have HS := short_any s
  have hz := sh_size s
  replace hT := hide hT
  generalize sh s = t at *
  by_cases h0 : 0 < t.size
  · by_cases hq : n + m ≤ 32767 / t.size
    · have H1 := times_yes t n h0 (by omega)
      have H2 := times_yes t m h0 (by omega)
      have H3 := times_yes t (n + m) h0 hq
      have hl : t.size * (n + m) ≤ 32767 := Nat.le_trans (Nat.mul_le_mul_left _ hq) (Nat.mul_div_le _ _)
      have e1 := hide (rep_add t n m)
      have z1 := rep_size t n
      have z2 := rep_size t m
      have z3 : (rep t n).size + (rep t m).size ≤ 32767 := by rw [z1, z2, ← Nat.add_mul, Nat.mul_comm]; exact hl
      have hl2 : t.size * (n + m) ≤ 200000 * 131070 := Nat.mul_le_mul hz (by omega)
      have c1 : ¬ (t.size : Int) * ((n : Int) + m) > 32767 := by
        have : ¬ ((t.size * (n + m) : Nat) : Int) > 32767 := by omega
        rw [Int.natCast_mul, Int.natCast_add] at this
        exact this
      have c2 : (t.size : Int) * ((n : Int) + m) ≤ 9223372036854775807 := by omega
      have c3 : (n : Int) + m ≤ 9223372036854775807 := by omega
      have c4 : 0 ≤ (t.size : Int) * ((n : Int) + m) := Int.mul_nonneg (by omega) (by omega)
      rw [Int.natCast_add] at H3
      clear hl hl2 hq z1 z2
      generalize rep t n = R1 at *
      generalize rep t m = R2 at *
      generalize rep t (n + m) = R3 at *
      go_enter Try.func7, Try.ntmps7
      go_wp2_with fail
      refine (HB.out _ hT.out).mono ?_
      rintro e w1 ⟨rfl, hb1⟩
      go_wp2_with fail
      refine (HS.out _).mono ?_
      rintro e w2 ⟨rfl, hb2⟩
      go_wp2_with fail
      refine (H1.out _).mono ?_
      rintro e w3 ⟨rfl, hb3⟩
      go_wp2_with fail
      refine (H2.out _).mono ?_
      rintro e w4 ⟨rfl, hb4⟩
      go_wp2_with fail
      refine (H3.out _).mono ?_
      rintro e w5 ⟨rfl, hb5⟩
      have hB := hide (next (next (next (next hb1 hb2) hb3) hb4) hb5)
      clear hb1 hb2 hb3 hb4 hb5
      go_wp2_with fail
      go_ret
      exact ⟨ret_bool (by rw [e1.out, decide_eq_false (Int.not_lt.2 c1)]; simp), hB.out⟩
    · have H3 := times_long t (n + m) h0 (by omega)
      obtain ⟨S1, E1, H1⟩ := times_some t n
      obtain ⟨S2, E2, H2⟩ := times_some t m
      have hl : 32767 < t.size * (n + m) := by
        rw [Nat.not_le, Nat.div_lt_iff_lt_mul h0, Nat.mul_comm] at hq
        exact hq
      have hl2 : t.size * (n + m) ≤ 200000 * 131070 := Nat.mul_le_mul hz (by omega)
      have c1 : (t.size : Int) * ((n : Int) + m) > 32767 := by
        have : ((t.size * (n + m) : Nat) : Int) > 32767 := by omega
        rw [Int.natCast_mul, Int.natCast_add] at this
        exact this
      have c2 : (t.size : Int) * ((n : Int) + m) ≤ 9223372036854775807 := by
        have : ((t.size * (n + m) : Nat) : Int) ≤ 9223372036854775807 := by omega
        rw [Int.natCast_mul, Int.natCast_add] at this
        exact this
      have c3 : (n : Int) + m ≤ 9223372036854775807 := by omega
      rw [Int.natCast_add] at H3
      clear hl hl2 hq
      go_enter Try.func7, Try.ntmps7
      go_wp2_with fail
      refine (HB.out _ hT.out).mono ?_
      rintro e w1 ⟨rfl, hb1⟩
      go_wp2_with fail
      refine (HS.out _).mono ?_
      rintro e w2 ⟨rfl, hb2⟩
      go_wp2_with fail
      refine (H1.out _).mono ?_
      rintro e w3 ⟨rfl, hb3⟩
      go_wp2_with fail
      refine (H2.out _).mono ?_
      rintro e w4 ⟨rfl, hb4⟩
      go_wp2_with fail
      refine (H3.out _).mono ?_
      rintro e w5 ⟨rfl, hb5⟩
      have hB := hide (next (next (next (next hb1 hb2) hb3) hb4) hb5)
      clear hb1 hb2 hb3 hb4 hb5
      go_wp2_with fail
      go_ret
      exact ⟨rfl, hB.out⟩
  · obtain rfl := no_of (show t.size = 0 by omega)
    have H1 := times_empty n (by omega)
    have H2 := times_empty m (by omega)
    have H3 := times_empty ((n : Int) + m) (by omega)
    have c3 : (n : Int) + m ≤ 9223372036854775807 := by omega
    go_enter Try.func7, Try.ntmps7
    go_wp2_with fail
    refine (HB.out _ hT.out).mono ?_
    rintro e w1 ⟨rfl, hb1⟩
    go_wp2_with fail
    refine (HS.out _).mono ?_
    rintro e w2 ⟨rfl, hb2⟩
    go_wp2_with fail
    refine (H1.out _).mono ?_
    rintro e w3 ⟨rfl, hb3⟩
    go_wp2_with fail
    refine (H2.out _).mono ?_
    rintro e w4 ⟨rfl, hb4⟩
    go_wp2_with fail
    refine (H3.out _).mono ?_
    rintro e w5 ⟨rfl, hb5⟩
    have hB := hide (next (next (next (next hb1 hb2) hb3) hb4) hb5)
    clear hb1 hb2 hb3 hb4 hb5
    go_wp2_with fail
    go_ret
    exact ⟨ret_bool (show (no ++ no).toList.isEmpty = true by rw [ByteArray.toList_eq]; rfl), hB.out⟩
end Go.Proofs.Ytllbgjeibcaajaa
