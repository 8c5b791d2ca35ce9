/- RunesNumbers: a rune's number and its form go together; a text that begins with that form has that number: the law returns true, for every input. Proved of the Go text. -/
import Derived.Test.YtllbgjeibcaajaaBegun5
import Derived.Test.YtllbgjeibcaajaaTimes5
namespace Go.Proofs.Ytllbgjeibcaajaa
open Go.RowKit Go.Sort
set_option linter.unusedVariables false

set_option maxHeartbeats 1000000 in
set_option maxRecDepth 100000 in
theorem numbers_no (n : Int) (s : ByteArray) (h : ¬ isR n) (w : World) (hT : Tab w) :
    Calls Try.prog 4 #[.int .i64 n, .string s] w fun e w' => e = .returned (.bool true) ∧ Below w.heap.size w w' := by
  have HB := begun_any
  have HC := char_no n h
  replace hT := hide hT
  unfold isR at h
  by_cases h1 : n < 0
  · clear h
    go_enter Try.func4, Try.ntmps4
    go_wp2_with fail
    refine (HB.out _ hT.out).mono ?_
    rintro e w1 ⟨rfl, hb1⟩
    go_wp2_with fail
    refine (HC.out _).mono ?_
    rintro e w2 ⟨rfl, hb2⟩
    go_wp2_with fail
    go_ret
    exact ⟨rfl, next hb1 hb2⟩
  · by_cases h2 : n > 1114111
    · clear h
      go_enter Try.func4, Try.ntmps4
      go_wp2_with fail
      refine (HB.out _ hT.out).mono ?_
      rintro e w1 ⟨rfl, hb1⟩
      go_wp2_with fail
      refine (HC.out _).mono ?_
      rintro e w2 ⟨rfl, hb2⟩
      go_wp2_with fail
      go_ret
      exact ⟨rfl, next hb1 hb2⟩
    · have h3 : n ≥ 55296 := by omega
      have h4 : n ≤ 57343 := by omega
      clear h
      go_enter Try.func4, Try.ntmps4
      go_wp2_with fail
      refine (HB.out _ hT.out).mono ?_
      rintro e w1 ⟨rfl, hb1⟩
      go_wp2_with fail
      refine (HC.out _).mono ?_
      rintro e w2 ⟨rfl, hb2⟩
      go_wp2_with fail
      go_ret
      exact ⟨rfl, next hb1 hb2⟩
set_option maxHeartbeats 1000000 in
set_option maxRecDepth 100000 in
theorem runesNumbers_walk (n : Int) (s : ByteArray) (hn0 : -9223372036854775808 ≤ n) (hn1 : n ≤ 9223372036854775807) (w : World) (hT : Tab w) :
    Calls Try.prog 4 #[.int .i64 n, .string s] w fun e w' => e = .returned (.bool true) ∧ Below w.heap.size w w' := by
  by_cases h : isR n
  · have HB := begun_any
    have HS := short_any s
    have hz := sh_size s
    generalize sh s = t at *
    replace hT := hide hT
    obtain ⟨k, rfl⟩ := Int.eq_ofNat_of_zero_le h.1
    have HC := char_yes k h
    have hd := dec_enc k h t
    have HL := len_any (Utf8.encode k) (by omega)
    rw [rc_enc k h] at HL
    have hsz : (Utf8.encode k ++ t).size = (Utf8.encode k).size + t.size := ByteArray.size_append
    have HD := code_yes (Utf8.encode k ++ t) (by omega)
    rw [show nr (Utf8.encode k ++ t) 0 = k by unfold nr; rw [hd.1]] at HD
    have hl := hd.2.2
    clear h hn0 hn1 hd hsz
    generalize Utf8.encode k = c at *
    have c1 : (c.size : Int) ≤ 4 := by omega
    clear hl
    go_enter Try.func4, Try.ntmps4
    go_wp2_with fail
    refine (HB.out _ hT.out).mono ?_
    rintro e w1 ⟨rfl, hb1⟩
    go_wp2_with fail
    refine (HC.out _).mono ?_
    rintro e w2 ⟨rfl, hb2⟩
    go_wp2_with fail
    refine (HS.out _).mono ?_
    rintro e w3 ⟨rfl, hb3⟩
    go_wp2_with fail
    refine (HD.out _).mono ?_
    rintro e w4 ⟨rfl, hb4⟩
    go_wp2_with fail
    refine (HL.out _).mono ?_
    rintro e w5 ⟨rfl, hb5⟩
    go_wp2_with fail
    go_ret
    exact ⟨rfl, next (next (next (next hb1 hb2) hb3) hb4) hb5⟩
  · exact numbers_no n s h w hT
end Go.Proofs.Ytllbgjeibcaajaa
