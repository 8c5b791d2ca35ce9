/- Every row of texts gives, whatever texts and numbers it is handed, a value that may be and is no blank. Proved of the Go text. The rows that reckon simply, and those that ask: a value that may be and is no blank. Proved of the Go text. What FACT answers. Proved of the Go text. The rows that reckon: MOD, QUOTIENT, POWER, GCD, LCM, FACT give a value that may be and is no blank. Proved of the Go text. POWER and SUBSTITUTE give a value that may be and is no blank. Proved of the Go text. SIGN, BITAND, BITOR, BITXOR give a value that may be and is no blank; ISNA a truth. Proved of the Go text. Of every function of class scalar or asking: what Call answers of arguments that may be, as many as it takes: a value that may be and is no blank; the first error, if there is one; of class asking a truth. Proved of the Go text. -/
import Derived.Test.YtgnmkhjilecdhaaGreatDoorDaJ
import Derived.Test.YtgnmkhjilecdhaaGreatDoorTkJ
import Derived.Test.YtgnmkhjilecdhaaGreatDoorSwJ
import Derived.Test.YtgnmkhjilecdhaaGreatDoorTrJ
import Derived.Test.YtgnmkhjilecdhaaGreatDoorCdM14
import Derived.Test.YtgnmkhjilecdhaaGreatDoorB14J
import Derived.Test.YtgnmkhjilecdhaaGreatDoorCkJ
namespace Go.Proofs.YtgnmkhjilecdhaaGreatDoor
open Go.RowKit Go.Sort
set_option linter.unusedVariables false

/-- A row gives a value that may be and is no blank. -/
def RowOk (fn : Nat) (ys : List Va) : Prop := ∃ out, DoIs fn ys out ∧ Wh out ∧ out.k ≠ 0
theorem sub_sz (s : ByteArray) (a b : Nat) (h : s.size ≤ 32767) : (s.extract a b).size ≤ 32767 := by rw [ByteArray.size_extract]; omega
theorem ok_t {fn : Nat} {ys : List Va} {s : ByteArray} (h : DoIs fn ys (vxT s)) (hs : s.size ≤ 32767) : RowOk fn ys := ⟨_, h, wh_text hs, by show (3 : Int) ≠ 0; decide⟩
theorem ok_n {fn : Nat} {ys : List Va} {n : Int} (h : DoIs fn ys (vxN n)) (hn : -9223372036854775808 ≤ n ∧ n ≤ 9223372036854775807) : RowOk fn ys := ⟨_, h, wh_int hn, by show (1 : Int) ≠ 0; decide⟩
theorem ok_b {fn : Nat} {ys : List Va} {b : Int} (h : DoIs fn ys ⟨2, b, no⟩) (hb : b = 0 ∨ b = 1) : RowOk fn ys := ⟨_, h, wh_bool hb, by show (2 : Int) ≠ 0; decide⟩
theorem ok_e {fn : Nat} {ys : List Va} {e : Int} (h : DoIs fn ys ⟨4, e, no⟩) (he : 1 ≤ e ∧ e ≤ 6) : RowOk fn ys := ⟨_, h, wh_err he, by show (4 : Int) ≠ 0; decide⟩
theorem rk_len (s : ByteArray) (hs : s.size ≤ 32767) : RowOk 53 [vxT s] := ok_n (n := (T5.rc s 0 : Int)) (do1 fun b' o cap w hT c0 => do_len (vxT s) _ 1 _ no (ci5 (T5.len_any s (by omega))) (cnumber_is _) b' o cap w hT c0) (by have := T5.rc_size s; omega)
theorem rk_left (s : ByteArray) (hs : s.size ≤ 32767) (n : Int) (hn0 : -9223372036854775808 ≤ n) (hn : n ≤ 9223372036854775807) : RowOk 55 [vxT s, vxN n] := by
  by_cases h : n < 0
  · exact ok_e (do2 fun b' o cap w hT c0 c1 => do_left (vxT s) (vxN n) _ 1 4 4 no (ci5 (T5.left_no s n h)) (writ_no _ 1 rfl) b' o cap w hT c0 c1) (by decide)
  · exact ok_t (do2 fun b' o cap w hT c0 c1 => do_left (vxT s) (vxN n) _ 0 3 0 _ (ci5 (T5.left_yes s n (by omega) (by omega) hn)) (writ_ok _) b' o cap w hT c0 c1) (sub_sz _ _ _ hs)
theorem rk_right (s : ByteArray) (hs : s.size ≤ 32767) (n : Int) (hn0 : -9223372036854775808 ≤ n) (hn : n ≤ 9223372036854775807) : RowOk 58 [vxT s, vxN n] := by
  by_cases h : n < 0
  · exact ok_e (do2 fun b' o cap w hT c0 c1 => do_right (vxT s) (vxN n) _ 1 4 4 no (ci5 (T5.right_no s n h)) (writ_no _ 1 rfl) b' o cap w hT c0 c1) (by decide)
  · exact ok_t (do2 fun b' o cap w hT c0 c1 => do_right (vxT s) (vxN n) _ 0 3 0 _ (ci5 (T5.right_yes s n (by omega) (by omega) hn)) (writ_ok _) b' o cap w hT c0 c1) (sub_sz _ _ _ hs)
theorem rk_mid (s : ByteArray) (hs : s.size ≤ 32767) (f : Int) (hf0 : -9223372036854775808 ≤ f) (hf : f ≤ 9223372036854775807) (n : Int) (hn0 : -9223372036854775808 ≤ n) (hn : n ≤ 9223372036854775807) : RowOk 60 [vxT s, vxN f, vxN n] := by
  by_cases h : f < 1 ∨ n < 0
  · exact ok_e (do3 fun b' o cap w hT c0 c1 c2 => do_mid (vxT s) (vxN f) (vxN n) _ 1 4 4 no (ci5 (T5.mid_no s f n h)) (writ_no _ 1 rfl) b' o cap w hT c0 c1 c2) (by decide)
  · exact ok_t (do3 fun b' o cap w hT c0 c1 c2 => do_mid (vxT s) (vxN f) (vxN n) _ 0 3 0 _ (ci5 (T5.mid_yes s f n (by omega) (by omega) hf (by omega) hn)) (writ_ok _) b' o cap w hT c0 c1 c2) (sub_sz _ _ _ hs)
theorem rk_upper (s : ByteArray) (hs : s.size ≤ 32767) : RowOk 62 [vxT s] := ok_t (do1 fun b' o cap w hT c0 => do_upper (vxT s) _ 3 0 _ (ci5 (T5.upper_any s (by omega))) (ctext_is _) b' o cap w hT c0) (by have := T5.casB_size 97 65 s; show (T5.casB 97 65 s).size ≤ 32767; omega)
theorem rk_lower (s : ByteArray) (hs : s.size ≤ 32767) : RowOk 65 [vxT s] := ok_t (do1 fun b' o cap w hT c0 => do_lower (vxT s) _ 3 0 _ (ci5 (T5.lower_any s (by omega))) (ctext_is _) b' o cap w hT c0) (by have := T5.casB_size 65 97 s; show (T5.casB 65 97 s).size ≤ 32767; omega)
theorem trim_sz (s : ByteArray) (hs : s.size ≤ 32767) : (T5.trimB s).size ≤ 32767 := by
  have h := T5.trF_len s.data.toList
  have h2 := T5.sz_list s
  show (T5.trF s.data.toList).1.toArray.size ≤ 32767
  rw [List.size_toArray]
  omega
theorem rk_trim (s : ByteArray) (hs : s.size ≤ 32767) : RowOk 67 [vxT s] := ok_t (do1 fun b' o cap w hT c0 => do_trim (vxT s) _ 3 0 _ (ci5 (T5.trim_any s (by omega))) (ctext_is _) b' o cap w hT c0) (trim_sz s hs)
theorem rk_turn (s : ByteArray) (hs : s.size ≤ 32767) : RowOk 69 [vxT s] := ok_t (do1 fun b' o cap w hT c0 => do_turn (vxT s) _ 3 0 _ (ci5 (T5.turn_any s (by omega))) (ctext_is _) b' o cap w hT c0) (by have := T5.turned_size s; show (T5.turned s).size ≤ 32767; omega)
theorem fnd_le (s what : ByteArray) : ∀ n q k, T5.fnd s what n q = some k → k < q + n
  | 0, q, k, h => by cases h
  | n + 1, q, k, h => by
    rw [T5.fnd] at h
    split at h
    · cases h; omega
    · have := fnd_le s what n (q + 1) k h; omega
theorem rk_find (u : ByteArray) (hu : u.size ≤ 32767) (s : ByteArray) (hs : s.size ≤ 32767) (n : Int) (hn0 : -9223372036854775808 ≤ n) (hn : n ≤ 9223372036854775807) : RowOk 71 [vxT u, vxT s, vxN n] := by
  have hr := T5.rc_size s
  by_cases h : n < 1 ∨ n > (T5.rc s 0 : Int) + 1
  · exact ok_e (do3 fun b' o cap w hT c0 c1 c2 => do_find (vxT u) (vxT s) (vxN n) 0 1 4 4 no (ci5 (T5.find_no u s n (by omega) h)) (count_no _ 1 rfl) b' o cap w hT c0 c1 c2) (by decide)
  · obtain ⟨m, rfl⟩ : ∃ m : Nat, n = (m : Int) := ⟨n.toNat, by omega⟩
    have hf := T5.find_yes u s m (by omega) (by omega) (by omega)
    cases hq : T5.fnd s u (T5.rc s 0 + 2 - m) m with
    | none =>
      rw [hq] at hf
      exact ok_e (do3 fun b' o cap w hT c0 c1 c2 => do_find (vxT u) (vxT s) (vxN m) 0 3 4 4 no (cb5 hf) (count_no _ 3 rfl) b' o cap w hT c0 c1 c2) (by decide)
    | some q =>
      rw [hq] at hf
      have := fnd_le s u _ _ q hq
      exact ok_n (n := (q : Int)) (do3 fun b' o cap w hT c0 c1 c2 => do_find (vxT u) (vxT s) (vxN m) q 0 1 q no (cb5 hf) (count_ok _) b' o cap w hT c0 c1 c2) (by omega)
theorem rk_repl (s : ByteArray) (hs : s.size ≤ 32767) (f : Int) (hf0 : -9223372036854775808 ≤ f) (hf : f ≤ 9223372036854775807) (n : Int) (hn0 : -9223372036854775808 ≤ n) (hn : n ≤ 9223372036854775807) (u : ByteArray) (hu : u.size ≤ 32767) : RowOk 74 [vxT s, vxN f, vxN n, vxT u] := by
  by_cases h : f < 1 ∨ n < 0
  · exact ok_e (do4 fun b' o cap w hT c0 c1 c2 c3 => do_repl_no (vxT s) (vxN f) (vxN n) (vxT u) _ 1 rfl (ci5 (T5.mid_no s f n h)) b' o cap w hT c0 c1 c2 c3) (by decide)
  · have h1 := T5.sk_le s (f - 1).toNat 0 (Nat.zero_le _)
    have h2 := T5.sk_le s n.toNat (T5.sk s (f - 1).toNat 0) h1
    have h3 := T5.sk_ge s n.toNat (T5.sk s (f - 1).toNat 0)
    have za : (s.extract 0 (T5.sk s (f - 1).toNat 0)).size = T5.sk s (f - 1).toNat 0 := by rw [ByteArray.size_extract]; omega
    have zm : (T5.midOf s (f - 1).toNat n.toNat).size = T5.sk s n.toNat (T5.sk s (f - 1).toNat 0) - T5.sk s (f - 1).toNat 0 := by rw [T5.midOf, ByteArray.size_extract]; omega
    have HM := T5.mid_yes s f n (by omega) (by omega) hf (by omega) hn
    have HL := T5.left_yes s (f - 1) (by omega) (by omega) (by omega)
    have hd : DoIs 74 [vxT s, vxN f, vxN n, vxT u] (chV (cat3 (s.extract 0 (T5.sk s (f - 1).toNat 0)) u (s.extract ((s.extract 0 (T5.sk s (f - 1).toNat 0)).size + (T5.midOf s (f - 1).toNat n.toNat).size) s.size))) := do4 fun b' o cap w hT c0 c1 c2 c3 =>
      do_repl (vxT s) (vxN f) (vxN n) (vxT u) (s.extract 0 (T5.sk s (f - 1).toNat 0)) (T5.midOf s (f - 1).toNat n.toNat) 0 (by simp only; omega) (by simp only [ByteArray.size_extract]; omega) (by rw [IntWalk.wrap64_in]; constructor <;> simp only <;> omega) (by rw [IntWalk.wrap64_in]; constructor <;> omega) (ci5 HM) (ci5 HL) b' o cap w hT c0 c1 c2 c3
    by_cases hz : (cat3 (s.extract 0 (T5.sk s (f - 1).toNat 0)) u (s.extract ((s.extract 0 (T5.sk s (f - 1).toNat 0)).size + (T5.midOf s (f - 1).toNat n.toNat).size) s.size)).size ≤ 32767
    · unfold chV at hd; rw [if_pos hz] at hd; exact ok_t hd hz
    · unfold chV at hd; rw [if_neg hz] at hd; exact ok_e hd (by decide)
theorem rk_rept (s : ByteArray) (hs : s.size ≤ 32767) (n : Int) (hn0 : -9223372036854775808 ≤ n) (hn : n ≤ 9223372036854775807) : RowOk 75 [vxT s, vxN n] := by
  have base := fun (r : ByteArray) (e : Int) (out : Va) (HO : CallB 76 #[.string s, .int .i64 n] (.tuple #[.string r, .int .i64 e])) (HR : CallIs 56 #[.string r, .int .i64 e] out.v) => show DoIs 75 [vxT s, vxN n] out from do2 fun b' o cap w hT c0 c1 => do_rept (vxT s) (vxN n) r e out.k out.i out.t HO HR b' o cap w hT c0 c1
  by_cases hneg : n < 0
  · exact ok_e (base _ _ ⟨4, 4, no⟩ (ci5 (T5.times_no s n hneg)) (writ_no _ 1 rfl)) (by decide)
  obtain ⟨m, rfl⟩ : ∃ m : Nat, n = (m : Int) := ⟨n.toNat, by omega⟩
  by_cases h : 0 < s.size
  · by_cases h1 : m ≤ 32767 / s.size
    · have h2 : s.size * m ≤ 32767 := by rw [Nat.mul_comm]; exact (Nat.le_div_iff_mul_le h).1 h1
      exact ok_t (base _ _ (vxT (T5.rep s m)) (ci5 (T5.times_yes s m h h1)) (writ_ok _)) (by rw [rep_size]; exact h2)
    · exact ok_e (base _ _ ⟨4, 4, no⟩ (ci5 (T5.times_long s m h (by omega))) (writ_no _ 2 rfl)) (by decide)
  · have hs0 : s = no := T5.no_of (by omega)
    subst hs0
    exact ok_t (base _ _ (vxT no) (ci5 (T5.times_empty m (by omega))) (writ_ok _)) (by decide)
theorem rk_code (s : ByteArray) (hs : s.size ≤ 32767) : RowOk 78 [vxT s] := by
  by_cases h : 0 < s.size
  · have := T5.nr_le s 0
    exact ok_n (n := (T5.nr s 0 : Int)) (do1 fun b' o cap w hT c0 => do_code (vxT s) _ 0 1 _ no (ci5 (T5.code_yes s h)) (count_ok _) b' o cap w hT c0) (by omega)
  · have hs0 : s = no := T5.no_of (by omega)
    subst hs0
    exact ok_e (do1 fun b' o cap w hT c0 => do_code (vxT no) 0 1 4 4 no (ci5 T5.code_no) (count_no _ 1 rfl) b' o cap w hT c0) (by decide)
set_option maxRecDepth 100000 in
theorem rk_char (n : Int) (hn0 : -9223372036854775808 ≤ n) (hn : n ≤ 9223372036854775807) : RowOk 81 [vxN n] := by
  by_cases h : T5.isR n
  · obtain ⟨m, rfl⟩ : ∃ m : Nat, n = (m : Int) := ⟨n.toNat, by have := h.1; omega⟩
    have hz : (Utf8.encode m).size ≤ 32767 := by have := (T5.dec_enc m h no).2.2; omega
    have hc := T5.char_yes m h
    generalize Utf8.encode m = r at *
    exact ok_t (do1 fun b' o cap w hT c0 => do_char (vxN m) r 0 3 0 r (ci5 hc) (writ_ok r) b' o cap w hT c0) hz
  · exact ok_e (do1 fun b' o cap w hT c0 => do_char (vxN n) _ 1 4 4 no (ci5 (T5.char_no n h)) (writ_no _ 1 rfl) b' o cap w hT c0) (by decide)
end Go.Proofs.YtgnmkhjilecdhaaGreatDoor
namespace Go.Proofs.YtgnmkhjilecdhaaGreatDoor
open Go.RowKit Go.Sort
set_option linter.unusedVariables false

theorem rk_abs (n : Int) (h0 : -9223372036854775808 ≤ n) (h1 : n ≤ 9223372036854775807) : RowOk 32 [vxN n] := by
  by_cases h : n < 0
  · by_cases hl : n = -9223372036854775808
    · subst hl
      have hs : CallIs 21 #[.int .i64 0, .int .i64 (-9223372036854775808)] (.tuple #[.int .i64 0, .bool false]) := fun w => (sub64_no 0 (-9223372036854775808) w (by decide) (by decide) (by decide) (by decide) (by decide)).mono fun e w' ⟨e1, e2⟩ => ⟨e1, by rw [e2]; exact Below.refl _ _⟩
      exact ok_e (do1 fun b' o cap w hT c0 => do_abs_neg (vxN (-9223372036854775808)) (by decide) 0 false 4 2 no hs (fitting_no 0) b' o cap w hT c0) (by decide)
    · have hs : CallIs 21 #[.int .i64 0, .int .i64 n] (.tuple #[.int .i64 (0 - n), .bool true]) := fun w => (sub64_yes 0 n w (by omega) (by omega) (by omega) (by omega) (by omega) (by omega)).mono fun e w' ⟨e1, e2⟩ => ⟨e1, by rw [e2]; exact Below.refl _ _⟩
      exact ok_n (do1 fun b' o cap w hT c0 => do_abs_neg (vxN n) h (0 - n) true 1 (0 - n) no hs (fitting_yes (0 - n)) b' o cap w hT c0) (by omega)
  · exact ok_n (do1 fun b' o cap w hT c0 => do_abs_pos (vxN n) h b' o cap w hT c0) ⟨h0, h1⟩
theorem rk_even (n : Int) : RowOk 45 [vxN n] := by
  cases h : (n.tmod 2 == 0) with
  | true => exact ok_b (do1 fun b' o cap w hT c0 => do_even_true (vxN n) h b' o cap w hT c0) (.inr rfl)
  | false => exact ok_b (do1 fun b' o cap w hT c0 => do_even_false (vxN n) h b' o cap w hT c0) (.inl rfl)
theorem rk_odd (n : Int) : RowOk 46 [vxN n] := by
  cases h : (n.tmod 2 != 0) with
  | true => exact ok_b (do1 fun b' o cap w hT c0 => do_odd_true (vxN n) h b' o cap w hT c0) (.inr rfl)
  | false => exact ok_b (do1 fun b' o cap w hT c0 => do_odd_false (vxN n) h b' o cap w hT c0) (.inl rfl)
theorem rk_not (b : Int) : RowOk 51 [⟨2, b, no⟩] := by
  cases h : (b == 0) with
  | true => exact ok_b (do1 fun b' o cap w hT c0 => do_not_true ⟨2, b, no⟩ h b' o cap w hT c0) (.inr rfl)
  | false => exact ok_b (do1 fun b' o cap w hT c0 => do_not_false ⟨2, b, no⟩ h b' o cap w hT c0) (.inl rfl)
theorem rk_clamp (n a b : Int) (hn : -9223372036854775808 ≤ n ∧ n ≤ 9223372036854775807) (ha : -9223372036854775808 ≤ a ∧ a ≤ 9223372036854775807) (hb : -9223372036854775808 ≤ b ∧ b ≤ 9223372036854775807) : RowOk 52 [vxN n, vxN a, vxN b] := by
  by_cases h : b < a
  · exact ok_e (do3 fun b' o cap w hT c0 c1 c2 => do_clamp_no (vxN n) (vxN a) (vxN b) h b' o cap w hT c0 c1 c2) (by decide)
  · exact ok_n (do3 fun b' o cap w hT c0 c1 c2 => do_clamp_yes (vxN n) (vxN a) (vxN b) h b' o cap w hT c0 c1 c2) (by simp only; omega)
theorem rk_exact (s u : ByteArray) : RowOk 77 [vxT s, vxT u] := by
  cases h : (s.toList == u.toList) with
  | true => exact ok_b (do2 fun b' o cap w hT c0 c1 => do_exact (vxT s) (vxT u) true h 2 1 no ctruth_yes b' o cap w hT c0 c1) (.inr rfl)
  | false => exact ok_b (do2 fun b' o cap w hT c0 c1 => do_exact (vxT s) (vxT u) false h 2 0 no ctruth_no b' o cap w hT c0 c1) (.inl rfl)
theorem rk_value (n : Int) (h0 : -9223372036854775808 ≤ n) (h1 : n ≤ 9223372036854775807) : RowOk 83 [vxN n] := ok_n (do1 fun b' o cap w hT c0 => do_value (vxN n) b' o cap w hT c0) ⟨h0, h1⟩
theorem rk_text (s : ByteArray) (hs : s.size ≤ 32767) : RowOk 84 [vxT s] := ok_t (do1 fun b' o cap w hT c0 => do_text (vxT s) b' o cap w hT c0) hs
theorem rk_n (x : Va) (hx : Wh x) : RowOk 85 [x] := ok_n (do1 fun b' o cap w hT c0 => do_n x b' o cap w hT c0) hx.2
theorem wh_len (x : Va) (hx : Wh x) : x.t.size ≤ 32767 := by
  obtain ⟨k, i, t⟩ := x
  obtain ⟨hg, _⟩ := hx
  simp only at hg ⊢
  rcases hg with ⟨_, _, rfl⟩ | ⟨_, rfl⟩ | ⟨_, _, rfl⟩ | ⟨_, _, ht⟩ | ⟨_, _, rfl⟩
  · decide
  · decide
  · decide
  · exact ht
  · decide
theorem rk_t (x : Va) (hx : Wh x) : RowOk 86 [x] := ok_t (do1 fun b' o cap w hT c0 => do_t x b' o cap w hT c0) (wh_len x hx)
theorem rk_na : RowOk 87 [] := ok_e (fun w a cap _ _ => do_na a cap w) (by decide)
/-- What a row that asks gives: a truth. -/
def AskOk (fn : Nat) (x : Va) : Prop := ∃ b, DoIs fn [x] ⟨2, b, no⟩ ∧ (b = 0 ∨ b = 1)
theorem rk_is0 (x : Va) : AskOk 88 x := by
  cases h : (x.k == 0) with
  | true => exact ⟨1, do1 fun b' o cap w hT c0 => do_is0_true x h b' o cap w hT c0, .inr rfl⟩
  | false => exact ⟨0, do1 fun b' o cap w hT c0 => do_is0_false x h b' o cap w hT c0, .inl rfl⟩
theorem rk_is1 (x : Va) : AskOk 89 x := by
  cases h : (x.k == 1) with
  | true => exact ⟨1, do1 fun b' o cap w hT c0 => do_is1_true x h b' o cap w hT c0, .inr rfl⟩
  | false => exact ⟨0, do1 fun b' o cap w hT c0 => do_is1_false x h b' o cap w hT c0, .inl rfl⟩
theorem rk_is3 (x : Va) : AskOk 90 x := by
  cases h : (x.k == 3) with
  | true => exact ⟨1, do1 fun b' o cap w hT c0 => do_is3_true x h b' o cap w hT c0, .inr rfl⟩
  | false => exact ⟨0, do1 fun b' o cap w hT c0 => do_is3_false x h b' o cap w hT c0, .inl rfl⟩
theorem rk_is2 (x : Va) : AskOk 91 x := by
  cases h : (x.k == 2) with
  | true => exact ⟨1, do1 fun b' o cap w hT c0 => do_is2_true x h b' o cap w hT c0, .inr rfl⟩
  | false => exact ⟨0, do1 fun b' o cap w hT c0 => do_is2_false x h b' o cap w hT c0, .inl rfl⟩
theorem rk_is4 (x : Va) : AskOk 92 x := by
  cases h : (x.k == 4) with
  | true => exact ⟨1, do1 fun b' o cap w hT c0 => do_is4_true x h b' o cap w hT c0, .inr rfl⟩
  | false => exact ⟨0, do1 fun b' o cap w hT c0 => do_is4_false x h b' o cap w hT c0, .inl rfl⟩
end Go.Proofs.YtgnmkhjilecdhaaGreatDoor
namespace Go.Proofs.YtgnmkhjilecdhaaGreatDoor
open Go.RowKit Go.Sort
set_option linter.unusedVariables false

def fct : Nat → Nat
  | 0 => 1
  | n + 1 => (n + 1) * fct n
theorem fct_le : ∀ f, f ≤ 20 → fct f ≤ 2432902008176640000 := by decide +kernel
set_option maxHeartbeats 1000000 in
set_option maxRecDepth 100000 in
theorem do_fact_neg (y0 : Va) (h : y0.i < 0) (b o cap : Nat) (w : World) (HT : Tb w) (C0 : VaAt w b (o) y0) : Calls Tryz.prog 44 #[.slice (some ⟨b, o, none⟩) 1 cap] w fun e w' => e = .returned (vV 4 2 no) ∧ Below w.heap.size w w' := by
  replace HT := hide HT
  go_enter Tryz.func44, Tryz.ntmps44
  try simp only [List.append]
  have cr : Hid (O3 (w.alloc (vO 0 0 no)) (w.heap.size) (.int .i64 0) (.int .i64 0) (.string no)) := hide (by have h0 := (O3.new w (.int .i64 0) (.int .i64 0) (.string no) 30); exact h0)
  replace C0 := hide (C0.keep ((Below.refl _ _).alloc (Nat.le_refl _) (vO 0 0 no)))
  have d1_01 : ((w.alloc (vO 0 0 no))).cell? ⟨b, o + 1, none⟩ = some (.int .i64 y0.i) := C0.out.2.1
  go_wp2_with fail
  refine ((cfault_is 2).out _).mono ?_
  rintro e w1 ⟨rfl, hb1⟩
  clear d1_01
  have B1 := hide (next (step (Below.refl w.heap.size w) (vO 0 0 no)) hb1)
  replace cr := hide (cr.out.keep hb1)
  replace C0 := hide (C0.out.keep hb1)
  have cru30 := cr.out.1.1
  have cru31 := cr.out.1.2.1
  have cru32 := cr.out.1.2.2
  have cru3f := cr.out.2
  have Bq2 := hide (below_put3 (b := w.heap.size) (B1.out) (by omega) (.int .i64 4) (.int .i64 2) (.string no))
  replace cr := hide (cr.out.put (.int .i64 4) (.int .i64 2) (.string no))
  obtain ⟨wq2, hwq2⟩ : ∃ wq2, put3 (w1) (w.heap.size) (.int .i64 4) (.int .i64 2) (.string no) = wq2 := ⟨_, rfl⟩
  rw [hwq2] at Bq2 cr
  unfold put3 at hwq2
  have cru40 := cr.out.1.1
  have cru41 := cr.out.1.2.1
  have cru42 := cr.out.1.2.2
  go_wp2_with fail
  refine bodyPost_ret (by simp [results, Tryz.results44, go_sem, cru40, cru41, cru42]; try rfl) rfl ?_
  exact ⟨rfl, Bq2.out⟩
set_option maxHeartbeats 1000000 in
set_option maxRecDepth 100000 in
theorem do_fact_big (y0 : Va) (h0 : ¬ y0.i < 0) (h : 20 < y0.i) (b o cap : Nat) (w : World) (HT : Tb w) (C0 : VaAt w b (o) y0) : Calls Tryz.prog 44 #[.slice (some ⟨b, o, none⟩) 1 cap] w fun e w' => e = .returned (vV 4 2 no) ∧ Below w.heap.size w w' := by
  replace HT := hide HT
  go_enter Tryz.func44, Tryz.ntmps44
  try simp only [List.append]
  have cr : Hid (O3 (w.alloc (vO 0 0 no)) (w.heap.size) (.int .i64 0) (.int .i64 0) (.string no)) := hide (by have h0 := (O3.new w (.int .i64 0) (.int .i64 0) (.string no) 30); exact h0)
  replace C0 := hide (C0.keep ((Below.refl _ _).alloc (Nat.le_refl _) (vO 0 0 no)))
  have d1_01 : ((w.alloc (vO 0 0 no))).cell? ⟨b, o + 1, none⟩ = some (.int .i64 y0.i) := C0.out.2.1
  go_wp2_with fail
  refine ((cfault_is 2).out _).mono ?_
  rintro e w1 ⟨rfl, hb1⟩
  clear d1_01
  have B1 := hide (next (step (Below.refl w.heap.size w) (vO 0 0 no)) hb1)
  replace cr := hide (cr.out.keep hb1)
  replace C0 := hide (C0.out.keep hb1)
  have cru30 := cr.out.1.1
  have cru31 := cr.out.1.2.1
  have cru32 := cr.out.1.2.2
  have cru3f := cr.out.2
  have Bq2 := hide (below_put3 (b := w.heap.size) (B1.out) (by omega) (.int .i64 4) (.int .i64 2) (.string no))
  replace cr := hide (cr.out.put (.int .i64 4) (.int .i64 2) (.string no))
  obtain ⟨wq2, hwq2⟩ : ∃ wq2, put3 (w1) (w.heap.size) (.int .i64 4) (.int .i64 2) (.string no) = wq2 := ⟨_, rfl⟩
  rw [hwq2] at Bq2 cr
  unfold put3 at hwq2
  have cru40 := cr.out.1.1
  have cru41 := cr.out.1.2.1
  have cru42 := cr.out.1.2.2
  go_wp2_with fail
  refine bodyPost_ret (by simp [results, Tryz.results44, go_sem, cru40, cru41, cru42]; try rfl) rfl ?_
  exact ⟨rfl, Bq2.out⟩
set_option maxHeartbeats 1000000 in
set_option maxRecDepth 100000 in
theorem do_fact_yes (y0 : Va) (n : Nat) (hn : n ≤ 20) (hy : y0.i = (n : Int)) (b o cap : Nat) (w : World) (HT : Tb w) (C0 : VaAt w b (o) y0) : Calls Tryz.prog 44 #[.slice (some ⟨b, o, none⟩) 1 cap] w fun e w' => e = .returned (vV 1 (fct n : Int) no) ∧ Below w.heap.size w w' := by
  replace HT := hide HT
  go_enter Tryz.func44, Tryz.ntmps44
  try simp only [List.append]
  have cr : Hid (O3 (w.alloc (vO 0 0 no)) (w.heap.size) (.int .i64 0) (.int .i64 0) (.string no)) := hide (by have h0 := (O3.new w (.int .i64 0) (.int .i64 0) (.string no) 30); exact h0)
  replace C0 := hide (C0.keep ((Below.refl _ _).alloc (Nat.le_refl _) (vO 0 0 no)))
  have hy1 : y0.i = (n : Int) := hy
  have p0 : ¬ (n : Int) < 0 := by omega
  have p1 : ¬ 20 < n := by omega
  have d1_01 : ((w.alloc (vO 0 0 no))).cell? ⟨b, o + 1, none⟩ = some (.int .i64 y0.i) := C0.out.2.1
  rw [hy1] at d1_01
  clear hy hy1
  have hnn := hide hn
  clear hn
  have crH := cr
  go_wp2_with fail
  go_loopw [4, 5] (fun p f wr => ∃ j : Nat, 1 ≤ j ∧ (j ≤ n ∨ j = 1) ∧ p = .int .i64 ((fct j : Nat) : Int) ∧ f = .int .i64 ((j + 1 : Nat) : Int) ∧ wr = w.alloc (vO 0 0 no)) (fun _ f _ => n + 2 - (intOf f).toNat)
  case atStart => exact ⟨1, by omega, .inr rfl, rfl, rfl, rfl⟩
  case round =>
    obtain ⟨j, h1, hjn, rfl, rfl, rfl⟩ := hrel
    obtain ⟨P, hP⟩ : ∃ P : Int, ((fct j : Nat) : Int) = P := ⟨_, rfl⟩
    obtain ⟨G, hG⟩ : ∃ G : Int, ((j + 1 : Nat) : Int) = G := ⟨_, rfl⟩
    by_cases hlt : j + 1 ≤ n
    · have q : G ≤ (n : Int) := by omega
      have hb := fct_le (j + 1) (by have := hnn.out; omega)
      have wm : wrap64 (P * G) = ((fct (j + 1) : Nat) : Int) := by
        have e : P * G = ((fct (j + 1) : Nat) : Int) := by rw [← hP, ← hG, ← Int.natCast_mul, Nat.mul_comm]; rfl
        rw [e]; exact IntWalk.wrap64_in _ ⟨by omega, by omega⟩
      have wa : wrap64 (G + 1) = ((j + 1 + 1 : Nat) : Int) := by rw [IntWalk.wrap64_in _ ⟨by omega, by omega⟩]; omega
      have wmH := hide wm
      have waH := hide wa
      have hmm : Hid ((intOf (.int .i64 ((j + 1 + 1 : Nat) : Int))).toNat = j + 2) := hide (by show ((j + 1 + 1 : Nat) : Int).toNat = j + 2; omega)
      have hmm2 : Hid ((intOf (.int .i64 G)).toNat = j + 1) := hide (by show G.toNat = j + 1; omega)
      rw [hP, hG]
      clear hb h1 hjn hP
      replace hG := hide hG
      replace hlt := hide hlt
      go_wp2_with fail
      refine ⟨⟨j + 1, by omega, .inl hlt.out, by first | rfl | rw [wmH.out], by first | rfl | rw [waH.out], by first | trivial | rfl⟩, ?_⟩
      first | (rw [hmm.out, hmm2.out]; have := hlt.out; omega) | (rw [waH.out, hmm.out, hmm2.out]; have := hlt.out; omega)
    · have q : ¬ G ≤ (n : Int) := by omega
      have hfin : Hid (P = ((fct n : Nat) : Int)) := hide (by
        rw [← hP]
        rcases hjn with h | h
        · rw [show j = n by omega]
        · subst h
          have : n = 0 ∨ n = 1 := by omega
          rcases this with rfl | rfl <;> rfl)
      have HNp := cnumber_is P
      rw [hP, hG]
      clear h1 hjn hP hG hlt
      go_wp2_with fail
      refine (HNp.out _).mono ?_
      rintro e w1 ⟨rfl, hb1⟩
      have B1 := hide (next (step (Below.refl w.heap.size w) (vO 0 0 no)) hb1)
      have cr1 := hide (crH.out.keep hb1)
      have g0 := cr1.out.1.1
      have g1 := cr1.out.1.2.1
      have g2 := cr1.out.1.2.2
      have gf := cr1.out.2
      have Bq := hide (below_put3 (b := w.heap.size) B1.out (by omega) (.int .i64 1) (.int .i64 P) (.string no))
      have cr2 := hide (cr1.out.put (.int .i64 1) (.int .i64 P) (.string no))
      obtain ⟨wq, hwq⟩ : ∃ wq, put3 w1 w.heap.size (.int .i64 1) (.int .i64 P) (.string no) = wq := ⟨_, rfl⟩
      rw [hwq] at Bq cr2
      unfold put3 at hwq
      have k0 := cr2.out.1.1
      have k1 := cr2.out.1.2.1
      have k2 := cr2.out.1.2.2
      go_wp2_with fail
      refine bodyPost_ret (by simp [results, Tryz.results44, go_sem, k0, k1, k2]; try rfl) rfl ?_
      exact ⟨by rw [hfin.out], Bq.out⟩
end Go.Proofs.YtgnmkhjilecdhaaGreatDoor
namespace Go.Proofs.YtgnmkhjilecdhaaGreatDoor
open Go.RowKit Go.Sort
set_option linter.unusedVariables false

abbrev B64 (n : Int) : Prop := -9223372036854775808 ≤ n ∧ n ≤ 9223372036854775807
theorem rk_fact (n : Int) (hn : B64 n) : RowOk 44 [vxN n] := by
  by_cases h : n < 0
  · exact ok_e (do1 fun b' o cap w hT c0 => do_fact_neg (vxN n) h b' o cap w hT c0) (by decide)
  by_cases h2 : 20 < n
  · exact ok_e (do1 fun b' o cap w hT c0 => do_fact_big (vxN n) h h2 b' o cap w hT c0) (by decide)
  obtain ⟨m, rfl⟩ : ∃ m : Nat, n = (m : Int) := ⟨n.toNat, by omega⟩
  have := fct_le m (by omega)
  exact ok_n (n := (fct m : Int)) (do1 fun b' o cap w hT c0 => do_fact_yes (vxN m) m (by omega) rfl b' o cap w hT c0) (by omega)
theorem reck_fn {fn : Nat} {a b r e : Int} {out : Va} {G : Nat} (HO : CallIs G #[.int .i64 a, .int .i64 b] (iiV r e)) (HR : CallIs 22 #[.int .i64 r, .int .i64 e] out.v)
    (hd : ∀ (y0 y1 : Va) (k i : Int) (t : ByteArray), CallIs G #[.int .i64 y0.i, .int .i64 y1.i] (.tuple #[.int .i64 r, .int .i64 e]) → CallIs 22 #[.int .i64 r, .int .i64 e] (vV k i t) → ∀ (b o cap : Nat) (w : World), Tb w → VaAt w b o y0 → VaAt w b (o + 3) y1 → Calls Tryz.prog fn #[.slice (some ⟨b, o, none⟩) 2 cap] w fun e w' => e = .returned (vV k i t) ∧ Below w.heap.size w w') : DoIs fn [vxN a, vxN b] out :=
  do2 fun b' o cap w hT c0 c1 => hd (vxN a) (vxN b) out.k out.i out.t HO HR b' o cap w hT c0 c1
theorem rk_mod (a b : Int) (ha : B64 a) (hb : B64 b) : RowOk 35 [vxN a, vxN b] := by
  by_cases zb : b = 0
  · subst zb
    have hm : CallIs 36 #[.int .i64 a, .int .i64 0] (iiV 0 14) := same_is fun w => mod_zero a w
    exact ok_e (reck_fn (out := ⟨4, 5, no⟩) hm (reck_zero 0) (fun y0 y1 k i t h1 h2 b o cap w hT c0 c1 => do_mod y0 y1 0 14 k i t h1 h2 b o cap w hT c0 c1)) (by decide)
  · have hm := mod_is a b hb.1 hb.2 zb
    have hf := (cd_facts ha.1 ha.2 hb.1 hb.2 zb).2.2.1
    exact ok_n (reck_fn (out := vxN (modV (a.tmod b) b)) hm (reck_ok _) (fun y0 y1 k i t h1 h2 b o cap w hT c0 c1 => do_mod y0 y1 _ 0 k i t h1 h2 b o cap w hT c0 c1)) (by omega)
theorem rk_quo (a b : Int) (ha : B64 a) (hb : B64 b) : RowOk 37 [vxN a, vxN b] := by
  by_cases zb : b = 0
  · subst zb
    have hq : CallIs 23 #[.int .i64 a, .int .i64 0] (iiV 0 14) := same_is fun w => quo_zero a w
    exact ok_e (reck_fn (out := ⟨4, 5, no⟩) hq (reck_zero 0) (fun y0 y1 k i t h1 h2 b o cap w hT c0 c1 => do_quo y0 y1 0 14 k i t h1 h2 b o cap w hT c0 c1)) (by decide)
  by_cases hl : a = -9223372036854775808 ∧ b = -1
  · obtain ⟨rfl, rfl⟩ := hl
    have hq : CallIs 23 #[.int .i64 (-9223372036854775808), .int .i64 (-1)] (iiV 0 13) := same_is fun w => quo_over w
    exact ok_e (reck_fn (out := ⟨4, 2, no⟩) hq (reck_no 0 13 rfl rfl) (fun y0 y1 k i t h1 h2 b o cap w hT c0 c1 => do_quo y0 y1 0 13 k i t h1 h2 b o cap w hT c0 c1)) (by decide)
  · have hq := quo_is a b ha.1 ha.2 zb hl
    have hz : (a.tdiv b).natAbs = a.natAbs / b.natAbs := Int.natAbs_tdiv ..
    have hB : B64 (a.tdiv b) := by
      by_cases h1 : b = 1
      · subst h1; rw [Int.tdiv_one]; exact ha
      by_cases h2 : b = -1
      · subst h2; rw [Int.tdiv_neg, Int.tdiv_one]; have := ha.1; have := ha.2; constructor <;> omega
      · have h3 : 2 ≤ b.natAbs := by omega
        have h4 : a.natAbs / b.natAbs ≤ a.natAbs / 2 := Nat.div_le_div_left h3 (by decide)
        have := ha.1; have := ha.2
        constructor <;> omega
    exact ok_n (reck_fn (out := vxN (a.tdiv b)) hq (reck_ok _) (fun y0 y1 k i t h1 h2 b o cap w hT c0 c1 => do_quo y0 y1 _ 0 k i t h1 h2 b o cap w hT c0 c1)) hB
theorem rk_gcd (a b : Int) (ha : B64 a) (hb : B64 b) : RowOk 40 [vxN a, vxN b] := by
  by_cases hg : Nat.gcd a.natAbs b.natAbs ≤ 9223372036854775807
  · have hG : CallIs 41 #[.int .i64 a, .int .i64 b] (iiV (Nat.gcd a.natAbs b.natAbs : Int) 0) := drewN_is fun w => gcd_yes a b _ w ha.1 ha.2 hb.1 hb.2 rfl hg
    exact ok_n (reck_fn (out := vxN (Nat.gcd a.natAbs b.natAbs : Int)) hG (reck_ok _) (fun y0 y1 k i t h1 h2 b o cap w hT c0 c1 => do_gcd y0 y1 _ 0 k i t h1 h2 b o cap w hT c0 c1)) (by constructor <;> omega)
  · have hG : CallIs 41 #[.int .i64 a, .int .i64 b] (iiV 0 13) := drewN_is fun w => gcd_no a b _ w ha.1 ha.2 hb.1 hb.2 rfl (by omega)
    exact ok_e (reck_fn (out := ⟨4, 2, no⟩) hG (reck_no 0 13 rfl rfl) (fun y0 y1 k i t h1 h2 b o cap w hT c0 c1 => do_gcd y0 y1 0 13 k i t h1 h2 b o cap w hT c0 c1)) (by decide)
theorem rk_lcm (a b : Int) (ha : B64 a) (hb : B64 b) : RowOk 42 [vxN a, vxN b] := by
  have good := fun (z : Int) (hz : B64 z) (hL : CallIs 43 #[.int .i64 a, .int .i64 b] (iiV z 0)) => show RowOk 42 [vxN a, vxN b] from ok_n (reck_fn (out := vxN z) hL (reck_ok _) (fun y0 y1 k i t h1 h2 b o cap w hT c0 c1 => do_lcm y0 y1 _ 0 k i t h1 h2 b o cap w hT c0 c1)) hz
  have bad := fun (hL : CallIs 43 #[.int .i64 a, .int .i64 b] (iiV 0 13)) => show RowOk 42 [vxN a, vxN b] from ok_e (reck_fn (out := ⟨4, 2, no⟩) hL (reck_no 0 13 rfl rfl) (fun y0 y1 k i t h1 h2 b o cap w hT c0 c1 => do_lcm y0 y1 0 13 k i t h1 h2 b o cap w hT c0 c1)) (by decide)
  by_cases za : a = 0
  · subst za; exact good 0 (by decide) (same_is fun w => lcm_left b w)
  by_cases zb : b = 0
  · subst zb; exact good 0 (by decide) (same_is fun w => lcm_right a w za)
  obtain ⟨z, hz⟩ : ∃ z, a.natAbs / Nat.gcd a.natAbs b.natAbs * b.natAbs = z := ⟨_, rfl⟩
  by_cases z1 : z ≤ 9223372036854775807
  · exact good (z : Int) (by constructor <;> omega) (drewN_is fun w => lcm_yes a b _ z w ha.1 ha.2 hb.1 hb.2 za zb rfl hz z1)
  by_cases z2 : z < 18446744073709551616
  · exact bad (drewN_is fun w => lcm_mid a b _ z w ha.1 ha.2 hb.1 hb.2 za zb rfl hz (by omega) z2)
  · exact bad (drewN_is fun w => lcm_high a b _ z w ha.1 ha.2 hb.1 hb.2 za zb rfl hz (by omega))
end Go.Proofs.YtgnmkhjilecdhaaGreatDoor
namespace Go.Proofs.YtgnmkhjilecdhaaGreatDoor
open Go.RowKit Go.Sort
set_option linter.unusedVariables false

theorem rk_pow (a b : Int) (ha : B64 a) (hb : B64 b) : RowOk 38 [vxN a, vxN b] := by
  have bad := fun (hL : CallIs 39 #[.int .i64 a, .int .i64 b] (iiV 0 13)) => show RowOk 38 [vxN a, vxN b] from ok_e (reck_fn (out := ⟨4, 2, no⟩) hL (reck_no 0 13 rfl rfl) (fun y0 y1 k i t h1 h2 b o cap w hT c0 c1 => do_pow y0 y1 0 13 k i t h1 h2 b o cap w hT c0 c1)) (by decide)
  by_cases hn : b < 0
  · exact bad (same_is fun w => pow_neg a b w hn)
  obtain ⟨m, rfl⟩ : ∃ m : Nat, b = (m : Int) := ⟨b.toNat, by omega⟩
  by_cases hf : Fit (a ^ m)
  · exact ok_n (reck_fn (out := vxN (a ^ m)) (same_is fun w => pow_yes a m w ha.1 ha.2 hb.2 hf) (reck_ok _) (fun y0 y1 k i t h1 h2 b o cap w hT c0 c1 => do_pow y0 y1 _ 0 k i t h1 h2 b o cap w hT c0 c1)) hf
  · exact bad (same_is fun w => pow_no a m w ha.1 ha.2 hb.2 hf)
theorem rk_subst (s u v : ByteArray) (hs : s.size ≤ 32767) (hu : u.size ≤ 32767) (hv : v.size ≤ 32767) : RowOk 72 [vxT s, vxT u, vxT v] := by
  have base := fun (r : ByteArray) (e : Int) (out : Va) (HO : CallB 73 #[.string s, .string u, .string v] (.tuple #[.string r, .int .i64 e])) (HR : CallIs 56 #[.string r, .int .i64 e] out.v) => show DoIs 72 [vxT s, vxT u, vxT v] out from do3 fun b' o cap w hT c0 c1 c2 => do_subst (vxT s) (vxT u) (vxT v) r e out.k out.i out.t HO HR b' o cap w hT c0 c1 c2
  by_cases h : 0 < u.size
  · have hw := T5.swap_any s u v (by omega) (by omega) (by omega) h
    by_cases hz : (T5.swB s u v).size > 32767
    · rw [if_pos hz] at hw; exact ok_e (base _ _ ⟨4, 4, no⟩ (cb5 hw) (writ_no _ 2 rfl)) (by decide)
    · rw [if_neg hz] at hw; exact ok_t (base _ _ (vxT (T5.swB s u v)) (cb5 hw) (writ_ok _)) (by omega)
  · have hu0 : u = no := T5.no_of (by omega)
    subst hu0
    exact ok_t (base _ _ (vxT s) (ci5 (T5.swap_empty s v)) (writ_ok _)) hs
end Go.Proofs.YtgnmkhjilecdhaaGreatDoor
namespace Go.Proofs.YtgnmkhjilecdhaaGreatDoor
open Go.RowKit Go.Sort
set_option linter.unusedVariables false


theorem rk_sign (n : Int) : RowOk 33 [vxN n] := ok_n (n := ord1 n 0) (do1 fun b' o cap w hT c0 => do_sign (vxN n) _ (cmpL_is n 0) b' o cap w hT c0) (by unfold ord1; split; exact (by decide); split <;> decide)
theorem bits_in (op : BinOp) (a b : Int) : B64 (bits op .i64 a b) := by
  unfold bits
  rw [IntKind.wrap_i64]
  unfold B64
  omega
theorem rk_and (a b : Int) : RowOk 47 [vxN a, vxN b] := by
  by_cases h1 : a < 0
  · exact ok_e (do2 fun b' o cap w hT c0 c1 => do_and (vxN a) (vxN b) _ rfl 4 2 no b' o cap (fun w' d0 d1 t => bit_n1 (vxN a) (vxN b) _ h1 b' o cap w' t d0 d1) w hT c0 c1) (by decide)
  by_cases h2 : b < 0
  · exact ok_e (do2 fun b' o cap w hT c0 c1 => do_and (vxN a) (vxN b) _ rfl 4 2 no b' o cap (fun w' d0 d1 t => bit_n2 (vxN a) (vxN b) _ h1 h2 b' o cap w' t d0 d1) w hT c0 c1) (by decide)
  · exact ok_n (n := bits .and .i64 a b) (do2 fun b' o cap w hT c0 c1 => do_and (vxN a) (vxN b) _ rfl 1 _ no b' o cap (fun w' d0 d1 t => bit_ok (vxN a) (vxN b) _ h1 h2 b' o cap w' t d0 d1) w hT c0 c1) (bits_in _ _ _)
theorem rk_or (a b : Int) : RowOk 49 [vxN a, vxN b] := by
  by_cases h1 : a < 0
  · exact ok_e (do2 fun b' o cap w hT c0 c1 => do_or (vxN a) (vxN b) _ rfl 4 2 no b' o cap (fun w' d0 d1 t => bit_n1 (vxN a) (vxN b) _ h1 b' o cap w' t d0 d1) w hT c0 c1) (by decide)
  by_cases h2 : b < 0
  · exact ok_e (do2 fun b' o cap w hT c0 c1 => do_or (vxN a) (vxN b) _ rfl 4 2 no b' o cap (fun w' d0 d1 t => bit_n2 (vxN a) (vxN b) _ h1 h2 b' o cap w' t d0 d1) w hT c0 c1) (by decide)
  · exact ok_n (n := bits .or .i64 a b) (do2 fun b' o cap w hT c0 c1 => do_or (vxN a) (vxN b) _ rfl 1 _ no b' o cap (fun w' d0 d1 t => bit_ok (vxN a) (vxN b) _ h1 h2 b' o cap w' t d0 d1) w hT c0 c1) (bits_in _ _ _)
theorem rk_xor (a b : Int) : RowOk 50 [vxN a, vxN b] := by
  by_cases h1 : a < 0
  · exact ok_e (do2 fun b' o cap w hT c0 c1 => do_xor (vxN a) (vxN b) _ rfl 4 2 no b' o cap (fun w' d0 d1 t => bit_n1 (vxN a) (vxN b) _ h1 b' o cap w' t d0 d1) w hT c0 c1) (by decide)
  by_cases h2 : b < 0
  · exact ok_e (do2 fun b' o cap w hT c0 c1 => do_xor (vxN a) (vxN b) _ rfl 4 2 no b' o cap (fun w' d0 d1 t => bit_n2 (vxN a) (vxN b) _ h1 h2 b' o cap w' t d0 d1) w hT c0 c1) (by decide)
  · exact ok_n (n := bits .xor .i64 a b) (do2 fun b' o cap w hT c0 c1 => do_xor (vxN a) (vxN b) _ rfl 1 _ no b' o cap (fun w' d0 d1 t => bit_ok (vxN a) (vxN b) _ h1 h2 b' o cap w' t d0 d1) w hT c0 c1) (bits_in _ _ _)
theorem na_eq (k i : Int) (t : ByteArray) : ∃ b : Bool, ∀ w, (binOp .eql 30 (vV k i t) (vV 4 6 no)).run Tryz.prog w = .ok (.bool b) w := by
  refine ⟨decide (k = 4) && (decide (i = 6) && decide (t.toList = [])), fun w => ?_⟩
  go_simp
  by_cases h1 : k = 4 <;> by_cases h2 : i = 6 <;> by_cases h3 : t.toList = [] <;> simp [h1, h2, h3]
theorem rk_isna (x : Va) : AskOk 93 x := by
  obtain ⟨b, hb⟩ := na_eq x.k x.i x.t
  cases b with
  | true => exact ⟨1, do1 fun b' o cap w hT c0 => do_isna x true hb 2 1 no ctruth_yes b' o cap w hT c0, .inr rfl⟩
  | false => exact ⟨0, do1 fun b' o cap w hT c0 => do_isna x false hb 2 0 no ctruth_no b' o cap w hT c0, .inl rfl⟩
end Go.Proofs.YtgnmkhjilecdhaaGreatDoor
namespace Go.Proofs.YtgnmkhjilecdhaaGreatDoor
open Go.RowKit Go.Sort
set_option linter.unusedVariables false


/-- What an argument is as a letter asks for it, where that is no error. -/
def Pk (c : UInt8) (y : Va) : Prop := Wh y ∧ ((c = 110 ∧ ∃ n, y = vxN n) ∨ (c = 116 ∧ ∃ s, y = vxT s) ∨ (c = 98 ∧ ∃ b, y = ⟨2, b, no⟩) ∨ c = 118)
theorem pk_n {y : Va} (h : Pk 110 y) : ∃ n, B64 n ∧ y = vxN n := by
  obtain ⟨hw, ⟨_, n, rfl⟩ | ⟨h, _⟩ | ⟨h, _⟩ | h⟩ := h
  · exact ⟨n, hw.2, rfl⟩
  all_goals exact absurd h (by decide)
theorem pk_t {y : Va} (h : Pk 116 y) : ∃ s : ByteArray, s.size ≤ 32767 ∧ y = vxT s := by
  obtain ⟨hw, ⟨h, _⟩ | ⟨_, s, rfl⟩ | ⟨h, _⟩ | h⟩ := h
  · exact absurd h (by decide)
  · exact ⟨s, wh_len _ hw, rfl⟩
  all_goals exact absurd h (by decide)
theorem pk_b {y : Va} (h : Pk 98 y) : ∃ b, True ∧ y = ⟨2, b, no⟩ := by
  obtain ⟨hw, ⟨h, _⟩ | ⟨h, _⟩ | ⟨_, b, rfl⟩ | h⟩ := h
  · exact absurd h (by decide)
  · exact absurd h (by decide)
  · exact ⟨b, trivial, rfl⟩
  · exact absurd h (by decide)
theorem pk_v {y : Va} (h : Pk 118 y) : ∃ x, Wh x ∧ y = x := ⟨y, h.1, rfl⟩
/-- An argument as a letter asks for it. -/
def Asks (c : UInt8) (x : Va) : Prop := ∃ y, AsIs c.toNat x y ∧ Wh y ∧ (y.k = 4 ∨ Pk c y)
theorem ask_110 (x : Va) (hx : Wh x) : Asks 110 x := by
  obtain ⟨y, h, hw, ⟨e, rfl⟩ | ⟨n, rfl⟩⟩ := asn_ex x hx
  · exact ⟨_, h, hw, .inl rfl⟩
  · exact ⟨_, h, hw, .inr ⟨hw, .inl ⟨rfl, n, rfl⟩⟩⟩
theorem ask_116 (x : Va) (hx : Wh x) : Asks 116 x := by
  obtain ⟨y, h, hw, ⟨e, rfl⟩ | ⟨n, rfl⟩⟩ := ast_ex x hx
  · exact ⟨_, h, hw, .inl rfl⟩
  · exact ⟨_, h, hw, .inr ⟨hw, .inr (.inl ⟨rfl, n, rfl⟩)⟩⟩
theorem ask_98 (x : Va) (hx : Wh x) : Asks 98 x := by
  obtain ⟨y, h, hw, ⟨e, rfl⟩ | ⟨n, rfl, _⟩⟩ := asb_ex x hx
  · exact ⟨_, h, hw, .inl rfl⟩
  · exact ⟨_, h, hw, .inr ⟨hw, .inr (.inr (.inl ⟨rfl, n, rfl⟩))⟩⟩
theorem ask_118 (x : Va) (hx : Wh x) : Asks 118 x := ⟨x, asv_ex x, hx, .inr ⟨hx, .inr (.inr (.inr rfl))⟩⟩
/-- What a row looks at, and what it gives of that. -/
def RowLook (asks : ByteArray) (fn : Nat) (xs : List Va) : Prop := ∃ ys : List Va, ys.length ≤ 4 ∧ LookIs asks xs ys ∧ (∀ y ∈ ys, Wh y) ∧ (fe ys = none → RowOk fn ys)
theorem fe_mem : ∀ {xs : List Va} {e : Va}, fe xs = some e → e ∈ xs ∧ e.k = 4
  | [], e, h => by cases h
  | x :: r, e, h => by
    rw [fe] at h
    split at h
    · cases h; exact ⟨List.mem_cons_self .., by assumption⟩
    · have := fe_mem h; exact ⟨List.mem_cons_of_mem _ this.1, this.2⟩
theorem fe_no : ∀ {xs : List Va}, fe xs = none → ∀ x ∈ xs, ¬ x.k = 4
  | [], _, x, h => by cases h
  | y :: r, h, x, hx => by
    rw [fe] at h
    split at h
    · cases h
    · rcases List.mem_cons.1 hx with rfl | hx
      · assumption
      · exact fe_no h x hx
theorem mem1 {P : Va → Prop} {a : Va} (ha : P a) : ∀ y ∈ [a], P y := fun y hy => by rcases List.mem_cons.1 hy with rfl | hy; exact ha; cases hy
theorem memC {P : Va → Prop} {a : Va} {l : List Va} (ha : P a) (hl : ∀ y ∈ l, P y) : ∀ y ∈ a :: l, P y := fun y hy => by rcases List.mem_cons.1 hy with rfl | hy; exact ha; exact hl y hy
theorem pk_of {c : UInt8} {y : Va} {ys : List Va} (h : y.k = 4 ∨ Pk c y) (hm : y ∈ ys) (hf : fe ys = none) : Pk c y := h.resolve_left (fe_no hf y hm)
theorem wh_one : Wh (⟨1, 1, no⟩ : Va) := wh_int (by decide)
theorem pk_one : Pk 110 (⟨1, 1, no⟩ : Va) := ⟨wh_one, .inl ⟨rfl, 1, rfl⟩⟩
theorem rl1 {c0 : UInt8} {fn : Nat} {x0 : Va} (h0 : Asks c0 x0) (R : ∀ y0, Pk c0 y0 → RowOk fn [y0]) : RowLook ⟨#[c0]⟩ fn [x0] := by
  obtain ⟨y0, a0, w0, p0⟩ := h0
  exact ⟨[y0], by show 1 ≤ 4; decide, look1 c0 _ _ a0, mem1 w0, fun hf => R _ (pk_of p0 (by simp) hf)⟩
theorem rl2 {c0 c1 : UInt8} {fn : Nat} {x0 x1 : Va} (h0 : Asks c0 x0) (h1 : Asks c1 x1) (R : ∀ y0 y1, Pk c0 y0 → Pk c1 y1 → RowOk fn [y0, y1]) : RowLook ⟨#[c0, c1]⟩ fn [x0, x1] := by
  obtain ⟨y0, a0, w0, p0⟩ := h0
  obtain ⟨y1, a1, w1, p1⟩ := h1
  exact ⟨[y0, y1], by show 2 ≤ 4; decide, look2 c0 c1 _ _ _ _ a0 a1, memC w0 (mem1 w1), fun hf => R _ _ (pk_of p0 (by simp) hf) (pk_of p1 (by simp) hf)⟩
theorem rl21 {c0 : UInt8} {fn : Nat} {x0 : Va} (h0 : Asks c0 x0) (R : ∀ y0 y1, Pk c0 y0 → Pk 110 y1 → RowOk fn [y0, y1]) : RowLook ⟨#[c0, 110]⟩ fn [x0] := by
  obtain ⟨y0, a0, w0, p0⟩ := h0
  exact ⟨[y0, ⟨1, 1, no⟩], by show 2 ≤ 4; decide, look21 c0 110 _ _ a0, memC w0 (mem1 wh_one), fun hf => R _ _ (pk_of p0 (by simp) hf) pk_one⟩
theorem rl3 {c0 c1 c2 : UInt8} {fn : Nat} {x0 x1 x2 : Va} (h0 : Asks c0 x0) (h1 : Asks c1 x1) (h2 : Asks c2 x2) (R : ∀ y0 y1 y2, Pk c0 y0 → Pk c1 y1 → Pk c2 y2 → RowOk fn [y0, y1, y2]) : RowLook ⟨#[c0, c1, c2]⟩ fn [x0, x1, x2] := by
  obtain ⟨y0, a0, w0, p0⟩ := h0
  obtain ⟨y1, a1, w1, p1⟩ := h1
  obtain ⟨y2, a2, w2, p2⟩ := h2
  exact ⟨[y0, y1, y2], by show 3 ≤ 4; decide, look3 c0 c1 c2 _ _ _ _ _ _ a0 a1 a2, memC w0 (memC w1 (mem1 w2)), fun hf => R _ _ _ (pk_of p0 (by simp) hf) (pk_of p1 (by simp) hf) (pk_of p2 (by simp) hf)⟩
theorem rl32 {c0 c1 : UInt8} {fn : Nat} {x0 x1 : Va} (h0 : Asks c0 x0) (h1 : Asks c1 x1) (R : ∀ y0 y1 y2, Pk c0 y0 → Pk c1 y1 → Pk 110 y2 → RowOk fn [y0, y1, y2]) : RowLook ⟨#[c0, c1, 110]⟩ fn [x0, x1] := by
  obtain ⟨y0, a0, w0, p0⟩ := h0
  obtain ⟨y1, a1, w1, p1⟩ := h1
  exact ⟨[y0, y1, ⟨1, 1, no⟩], by show 3 ≤ 4; decide, look32 c0 c1 110 _ _ _ _ a0 a1, memC w0 (memC w1 (mem1 wh_one)), fun hf => R _ _ _ (pk_of p0 (by simp) hf) (pk_of p1 (by simp) hf) pk_one⟩
theorem rl4 {c0 c1 c2 c3 : UInt8} {fn : Nat} {x0 x1 x2 x3 : Va} (h0 : Asks c0 x0) (h1 : Asks c1 x1) (h2 : Asks c2 x2) (h3 : Asks c3 x3) (R : ∀ y0 y1 y2 y3, Pk c0 y0 → Pk c1 y1 → Pk c2 y2 → Pk c3 y3 → RowOk fn [y0, y1, y2, y3]) : RowLook ⟨#[c0, c1, c2, c3]⟩ fn [x0, x1, x2, x3] := by
  obtain ⟨y0, a0, w0, p0⟩ := h0
  obtain ⟨y1, a1, w1, p1⟩ := h1
  obtain ⟨y2, a2, w2, p2⟩ := h2
  obtain ⟨y3, a3, w3, p3⟩ := h3
  exact ⟨[y0, y1, y2, y3], by show 4 ≤ 4; decide, look4 c0 c1 c2 c3 _ _ _ _ _ _ _ _ a0 a1 a2 a3, memC w0 (memC w1 (memC w2 (mem1 w3))), fun hf => R _ _ _ _ (pk_of p0 (by simp) hf) (pk_of p1 (by simp) hf) (pk_of p2 (by simp) hf) (pk_of p3 (by simp) hf)⟩
theorem len0 {xs : List Va} (h : (xs.length : Int) ≤ 0) : xs = [] := by
  match xs, h with
  | [], _ => rfl
  | x :: r, h => simp at h; omega
theorem len1 {xs : List Va} (h : 1 ≤ (xs.length : Int)) (h2 : (xs.length : Int) ≤ 1) : ∃ a, xs = [a] := by
  match xs, h, h2 with
  | [a], _, _ => exact ⟨a, rfl⟩
  | [], h, _ => simp at h
  | a :: b :: r, _, h => simp at h; omega
theorem len2 {xs : List Va} (h : 2 ≤ (xs.length : Int)) (h2 : (xs.length : Int) ≤ 2) : ∃ a b, xs = [a, b] := by
  match xs, h, h2 with
  | [a, b], _, _ => exact ⟨a, b, rfl⟩
  | [], h, _ => simp at h
  | [a], h, _ => simp at h
  | a :: b :: c :: r, _, h => simp at h; omega
theorem len3 {xs : List Va} (h : 3 ≤ (xs.length : Int)) (h2 : (xs.length : Int) ≤ 3) : ∃ a b c, xs = [a, b, c] := by
  match xs, h, h2 with
  | [a, b, c], _, _ => exact ⟨a, b, c, rfl⟩
  | [], h, _ => simp at h
  | [a], h, _ => simp at h
  | [a, b], h, _ => simp at h
  | a :: b :: c :: d :: r, _, h => simp at h; omega
theorem len4 {xs : List Va} (h : 4 ≤ (xs.length : Int)) (h2 : (xs.length : Int) ≤ 4) : ∃ a b c d, xs = [a, b, c, d] := by
  match xs, h, h2 with
  | [a, b, c, d], _, _ => exact ⟨a, b, c, d, rfl⟩
  | [], h, _ => simp at h
  | [a], h, _ => simp at h
  | [a, b], h, _ => simp at h
  | [a, b, c], h, _ => simp at h
  | a :: b :: c :: d :: e :: r, _, h => simp at h; omega
/-- What a function of a single place in the catalogue answers. -/
def SomeRow (k : Nat) : Prop := ∃ nm mn mx, T9.tab[k]? = some (nm, mn, mx) ∧ 0 ≤ mn ∧ mx ≤ 4 ∧ ∀ xs : List Va, (∀ x ∈ xs, Wh x) → mn ≤ (xs.length : Int) → (xs.length : Int) ≤ mx → ∃ out, FunIs ((k : Int) + 1) xs out ∧ Wh out ∧ out.k ≠ 0 ∧ (k < 35 → ∀ e, fe xs = some e → out = e) ∧ (35 ≤ k → out.k = 2)
theorem sr_of (k : Nat) (hk : k < 35) (nm : ByteArray) (mn mx : Int) (h : T9.tab[k]? = some (nm, mn, mx)) (h0 : 0 ≤ mn) (h4 : mx ≤ 4) (asks : ByteArray) (fn : Nat) (hr : rtab[k]? = some (asks, fn)) (hf : fn ≠ 0) (hent : ∀ args w, (callFunc fn args).run Tryz.prog w = .ok (.enter fn args) w)
    (hrow : ∀ xs : List Va, (∀ x ∈ xs, Wh x) → mn ≤ (xs.length : Int) → (xs.length : Int) ≤ mx → RowLook asks fn xs) : SomeRow k := by
  refine ⟨nm, mn, mx, h, h0, h4, fun xs hx h1 h2 => ?_⟩
  have m4 : 4 ≤ maxLen := by unfold maxLen; decide
  have hl : xs.length ≤ maxLen := by omega
  obtain ⟨ys, hy, hlk, hw, hR⟩ := hrow xs hx h1 h2
  have base := fun (out : Va) (hd : fe xs = none → fe ys = none → DoIs fn ys out) => show FunIs ((k : Int) + 1) xs (scV xs ys out) from
    fun w a cap HT hv => callS k hk nm mn mx h asks fn hr hf hent xs ys out a cap w HT hv hl (by omega) (by omega) (fun x hq => (hx x hq).1) (fun _ => hlk) (by omega) hd
  cases hfx : fe xs with
  | some e =>
    have hm := fe_mem hfx
    have := base e (fun hq => by rw [hfx] at hq; cases hq)
    rw [scV_err hfx] at this
    exact ⟨e, this, hx e hm.1, by rw [hm.2]; decide, (fun _ e' he => by cases he; rfl), fun hq => by omega⟩
  | none =>
    cases hfy : fe ys with
    | some e =>
      have hm := fe_mem hfy
      have := base e (fun _ hq => by rw [hfy] at hq; cases hq)
      have hs : scV xs ys e = e := by unfold scV; rw [hfx, hfy]
      rw [hs] at this
      exact ⟨e, this, hw e hm.1, by rw [hm.2]; decide, (fun _ e' he => by cases he), fun hq => by omega⟩
    | none =>
      obtain ⟨out, hd, ho, hk0⟩ := hR hfy
      have := base out (fun _ _ => hd)
      rw [scV_out hfx hfy] at this
      exact ⟨out, this, ho, hk0, (fun _ e' he => by cases he), fun hq => by omega⟩
theorem sa_of (k : Nat) (hk1 : 35 ≤ k) (hk : k < 41) (nm : ByteArray) (h : T9.tab[k]? = some (nm, 1, 1)) (asks : ByteArray) (fn : Nat) (hr : rtab[k]? = some (asks, fn)) (hf : fn ≠ 0) (hent : ∀ args w, (callFunc fn args).run Tryz.prog w = .ok (.enter fn args) w)
    (hrow : ∀ x : Va, AskOk fn x) : SomeRow k := by
  refine ⟨nm, 1, 1, h, by decide, by decide, fun xs hx h1 h2 => ?_⟩
  obtain ⟨x, rfl⟩ := len1 h1 h2
  obtain ⟨b, hd, hb⟩ := hrow x
  have m4 : 4 ≤ maxLen := by unfold maxLen; decide
  exact ⟨⟨2, b, no⟩, fun w a cap HT hv => callA k hk1 hk nm 1 1 h asks fn hr hf hent [x] ⟨2, b, no⟩ a cap w HT hv (by show 1 ≤ maxLen; omega) (by show ¬ ((1 : Nat) : Int) < 1; decide) (by show ¬ (1 : Int) < ((1 : Nat) : Int); decide) (fun y hq => (hx y hq).1) hd, wh_bool hb, by show (2 : Int) ≠ 0; decide, fun hq => by omega, fun _ => rfl⟩
set_option maxHeartbeats 1000000 in
set_option maxRecDepth 100000 in
theorem look0 (fn : Nat) (R : RowOk fn []) : RowLook ⟨#[]⟩ fn [] := by
  refine ⟨[], by decide, ?_, (fun y hy => by cases hy), fun _ => R⟩
  intro w a cap hT hv
  obtain ⟨ie, hie0⟩ : ∃ i, Tryz.prog.info? 30 = some i := by
    cases h : Tryz.prog.info? 30 with
    | none => have := info_va; rw [h] at this; cases this
    | some i => exact ⟨i, rfl⟩
  obtain ⟨z0, z1, z2⟩ : ie.zero = some (.agg #[.int .i64 0, .int .i64 0, .string no]) ∧ ie.size = 3 ∧ ie.bytes = 32 := by
    have := info_va
    rw [hie0] at this
    simpa using this
  have hie := hide hie0
  have hz0 := hide z0
  have hz1 := hide z1
  have hz2 := hide z2
  clear hie0 z0 z1 z2
  go_enter Tryz.func94, Tryz.ntmps94
  go_wp2_with (first
    | (at_make; refine wpList_make_full _ rfl _ _ 22 rfl w.heap.size 30 ie _ 3 Tryz.underlying22 hie.out hz0.out hz1.out _ _ _ _ 0 rfl rfl rfl rfl ?m1 ?m2 ?m3 ?_))
  case m1 => rw [hz2.out]; omega
  case m2 => unfold maxLen; omega
  case m3 => exact Nat.le_refl _
  intro w1 ho hg
  have B1 := hide (below_grown hg)
  clear ho hg
  go_wp2_with fail
  go_loopw [12] (fun i wr => i = .int .i64 0 ∧ Hid (Below w.heap.size w wr)) (fun i _ => 0)
  case atStart => exact ⟨rfl, B1⟩
  case round =>
    obtain ⟨rfl, HW⟩ := hrel
    go_wp2_with fail
    go_ret
    exact ⟨_, _, rfl, .inl rfl, HW.out⟩
theorem sr0 : SomeRow 0 := sr_of 0 (by decide) ⟨#[65, 66, 83]⟩ 1 1 (by kernel_rfl) (by decide) (by decide) ⟨#[110]⟩ 32 (by kernel_rfl) (by decide) ent1 (fun xs hx h1 h2 => by
  obtain ⟨a0, rfl⟩ := len1 (xs := xs) (by omega) (by omega)
  exact rl1 (ask_110 a0 (hx _ (by simp))) (fun y0 q0 => by clear h1 h2 hx; obtain ⟨v0, h0, rfl⟩ := pk_n q0; exact rk_abs v0 h0.1 h0.2))
theorem sr1 : SomeRow 1 := sr_of 1 (by decide) ⟨#[83, 73, 71, 78]⟩ 1 1 (by kernel_rfl) (by decide) (by decide) ⟨#[110]⟩ 33 (by kernel_rfl) (by decide) ent2 (fun xs hx h1 h2 => by
  obtain ⟨a0, rfl⟩ := len1 (xs := xs) (by omega) (by omega)
  exact rl1 (ask_110 a0 (hx _ (by simp))) (fun y0 q0 => by clear h1 h2 hx; obtain ⟨v0, h0, rfl⟩ := pk_n q0; exact rk_sign v0))
theorem sr2 : SomeRow 2 := sr_of 2 (by decide) ⟨#[77, 79, 68]⟩ 2 2 (by kernel_rfl) (by decide) (by decide) ⟨#[110, 110]⟩ 35 (by kernel_rfl) (by decide) ent3 (fun xs hx h1 h2 => by
  obtain ⟨a0, a1, rfl⟩ := len2 (xs := xs) (by omega) (by omega)
  exact rl2 (ask_110 a0 (hx _ (by simp))) (ask_110 a1 (hx _ (by simp))) (fun y0 y1 q0 q1 => by clear h1 h2 hx; obtain ⟨v0, h0, rfl⟩ := pk_n q0; obtain ⟨v1, h1, rfl⟩ := pk_n q1; exact rk_mod v0 v1 h0 h1))
theorem sr3 : SomeRow 3 := sr_of 3 (by decide) ⟨#[81, 85, 79, 84, 73, 69, 78, 84]⟩ 2 2 (by kernel_rfl) (by decide) (by decide) ⟨#[110, 110]⟩ 37 (by kernel_rfl) (by decide) ent4 (fun xs hx h1 h2 => by
  obtain ⟨a0, a1, rfl⟩ := len2 (xs := xs) (by omega) (by omega)
  exact rl2 (ask_110 a0 (hx _ (by simp))) (ask_110 a1 (hx _ (by simp))) (fun y0 y1 q0 q1 => by clear h1 h2 hx; obtain ⟨v0, h0, rfl⟩ := pk_n q0; obtain ⟨v1, h1, rfl⟩ := pk_n q1; exact rk_quo v0 v1 h0 h1))
theorem sr4 : SomeRow 4 := sr_of 4 (by decide) ⟨#[80, 79, 87, 69, 82]⟩ 2 2 (by kernel_rfl) (by decide) (by decide) ⟨#[110, 110]⟩ 38 (by kernel_rfl) (by decide) ent5 (fun xs hx h1 h2 => by
  obtain ⟨a0, a1, rfl⟩ := len2 (xs := xs) (by omega) (by omega)
  exact rl2 (ask_110 a0 (hx _ (by simp))) (ask_110 a1 (hx _ (by simp))) (fun y0 y1 q0 q1 => by clear h1 h2 hx; obtain ⟨v0, h0, rfl⟩ := pk_n q0; obtain ⟨v1, h1, rfl⟩ := pk_n q1; exact rk_pow v0 v1 h0 h1))
theorem sr5 : SomeRow 5 := sr_of 5 (by decide) ⟨#[71, 67, 68]⟩ 2 2 (by kernel_rfl) (by decide) (by decide) ⟨#[110, 110]⟩ 40 (by kernel_rfl) (by decide) ent6 (fun xs hx h1 h2 => by
  obtain ⟨a0, a1, rfl⟩ := len2 (xs := xs) (by omega) (by omega)
  exact rl2 (ask_110 a0 (hx _ (by simp))) (ask_110 a1 (hx _ (by simp))) (fun y0 y1 q0 q1 => by clear h1 h2 hx; obtain ⟨v0, h0, rfl⟩ := pk_n q0; obtain ⟨v1, h1, rfl⟩ := pk_n q1; exact rk_gcd v0 v1 h0 h1))
theorem sr6 : SomeRow 6 := sr_of 6 (by decide) ⟨#[76, 67, 77]⟩ 2 2 (by kernel_rfl) (by decide) (by decide) ⟨#[110, 110]⟩ 42 (by kernel_rfl) (by decide) ent7 (fun xs hx h1 h2 => by
  obtain ⟨a0, a1, rfl⟩ := len2 (xs := xs) (by omega) (by omega)
  exact rl2 (ask_110 a0 (hx _ (by simp))) (ask_110 a1 (hx _ (by simp))) (fun y0 y1 q0 q1 => by clear h1 h2 hx; obtain ⟨v0, h0, rfl⟩ := pk_n q0; obtain ⟨v1, h1, rfl⟩ := pk_n q1; exact rk_lcm v0 v1 h0 h1))
theorem sr7 : SomeRow 7 := sr_of 7 (by decide) ⟨#[70, 65, 67, 84]⟩ 1 1 (by kernel_rfl) (by decide) (by decide) ⟨#[110]⟩ 44 (by kernel_rfl) (by decide) ent8 (fun xs hx h1 h2 => by
  obtain ⟨a0, rfl⟩ := len1 (xs := xs) (by omega) (by omega)
  exact rl1 (ask_110 a0 (hx _ (by simp))) (fun y0 q0 => by clear h1 h2 hx; obtain ⟨v0, h0, rfl⟩ := pk_n q0; exact rk_fact v0 h0))
theorem sr8 : SomeRow 8 := sr_of 8 (by decide) ⟨#[73, 83, 69, 86, 69, 78]⟩ 1 1 (by kernel_rfl) (by decide) (by decide) ⟨#[110]⟩ 45 (by kernel_rfl) (by decide) ent9 (fun xs hx h1 h2 => by
  obtain ⟨a0, rfl⟩ := len1 (xs := xs) (by omega) (by omega)
  exact rl1 (ask_110 a0 (hx _ (by simp))) (fun y0 q0 => by clear h1 h2 hx; obtain ⟨v0, h0, rfl⟩ := pk_n q0; exact rk_even v0))
theorem sr9 : SomeRow 9 := sr_of 9 (by decide) ⟨#[73, 83, 79, 68, 68]⟩ 1 1 (by kernel_rfl) (by decide) (by decide) ⟨#[110]⟩ 46 (by kernel_rfl) (by decide) ent10 (fun xs hx h1 h2 => by
  obtain ⟨a0, rfl⟩ := len1 (xs := xs) (by omega) (by omega)
  exact rl1 (ask_110 a0 (hx _ (by simp))) (fun y0 q0 => by clear h1 h2 hx; obtain ⟨v0, h0, rfl⟩ := pk_n q0; exact rk_odd v0))
theorem sr10 : SomeRow 10 := sr_of 10 (by decide) ⟨#[66, 73, 84, 65, 78, 68]⟩ 2 2 (by kernel_rfl) (by decide) (by decide) ⟨#[110, 110]⟩ 47 (by kernel_rfl) (by decide) ent11 (fun xs hx h1 h2 => by
  obtain ⟨a0, a1, rfl⟩ := len2 (xs := xs) (by omega) (by omega)
  exact rl2 (ask_110 a0 (hx _ (by simp))) (ask_110 a1 (hx _ (by simp))) (fun y0 y1 q0 q1 => by clear h1 h2 hx; obtain ⟨v0, h0, rfl⟩ := pk_n q0; obtain ⟨v1, h1, rfl⟩ := pk_n q1; exact rk_and v0 v1))
theorem sr11 : SomeRow 11 := sr_of 11 (by decide) ⟨#[66, 73, 84, 79, 82]⟩ 2 2 (by kernel_rfl) (by decide) (by decide) ⟨#[110, 110]⟩ 49 (by kernel_rfl) (by decide) ent12 (fun xs hx h1 h2 => by
  obtain ⟨a0, a1, rfl⟩ := len2 (xs := xs) (by omega) (by omega)
  exact rl2 (ask_110 a0 (hx _ (by simp))) (ask_110 a1 (hx _ (by simp))) (fun y0 y1 q0 q1 => by clear h1 h2 hx; obtain ⟨v0, h0, rfl⟩ := pk_n q0; obtain ⟨v1, h1, rfl⟩ := pk_n q1; exact rk_or v0 v1))
theorem sr12 : SomeRow 12 := sr_of 12 (by decide) ⟨#[66, 73, 84, 88, 79, 82]⟩ 2 2 (by kernel_rfl) (by decide) (by decide) ⟨#[110, 110]⟩ 50 (by kernel_rfl) (by decide) ent13 (fun xs hx h1 h2 => by
  obtain ⟨a0, a1, rfl⟩ := len2 (xs := xs) (by omega) (by omega)
  exact rl2 (ask_110 a0 (hx _ (by simp))) (ask_110 a1 (hx _ (by simp))) (fun y0 y1 q0 q1 => by clear h1 h2 hx; obtain ⟨v0, h0, rfl⟩ := pk_n q0; obtain ⟨v1, h1, rfl⟩ := pk_n q1; exact rk_xor v0 v1))
theorem sr13 : SomeRow 13 := sr_of 13 (by decide) ⟨#[78, 79, 84]⟩ 1 1 (by kernel_rfl) (by decide) (by decide) ⟨#[98]⟩ 51 (by kernel_rfl) (by decide) ent14 (fun xs hx h1 h2 => by
  obtain ⟨a0, rfl⟩ := len1 (xs := xs) (by omega) (by omega)
  exact rl1 (ask_98 a0 (hx _ (by simp))) (fun y0 q0 => by clear h1 h2 hx; obtain ⟨v0, h0, rfl⟩ := pk_b q0; exact rk_not v0))
theorem sr14 : SomeRow 14 := sr_of 14 (by decide) ⟨#[67, 76, 65, 77, 80]⟩ 3 3 (by kernel_rfl) (by decide) (by decide) ⟨#[110, 110, 110]⟩ 52 (by kernel_rfl) (by decide) ent15 (fun xs hx h1 h2 => by
  obtain ⟨a0, a1, a2, rfl⟩ := len3 (xs := xs) (by omega) (by omega)
  exact rl3 (ask_110 a0 (hx _ (by simp))) (ask_110 a1 (hx _ (by simp))) (ask_110 a2 (hx _ (by simp))) (fun y0 y1 y2 q0 q1 q2 => by clear h1 h2 hx; obtain ⟨v0, h0, rfl⟩ := pk_n q0; obtain ⟨v1, h1, rfl⟩ := pk_n q1; obtain ⟨v2, h2, rfl⟩ := pk_n q2; exact rk_clamp v0 v1 v2 h0 h1 h2))
theorem sr15 : SomeRow 15 := sr_of 15 (by decide) ⟨#[76, 69, 78]⟩ 1 1 (by kernel_rfl) (by decide) (by decide) ⟨#[116]⟩ 53 (by kernel_rfl) (by decide) ent16 (fun xs hx h1 h2 => by
  obtain ⟨a0, rfl⟩ := len1 (xs := xs) (by omega) (by omega)
  exact rl1 (ask_116 a0 (hx _ (by simp))) (fun y0 q0 => by clear h1 h2 hx; obtain ⟨v0, h0, rfl⟩ := pk_t q0; exact rk_len v0 h0))
theorem sr16 : SomeRow 16 := sr_of 16 (by decide) ⟨#[76, 69, 70, 84]⟩ 1 2 (by kernel_rfl) (by decide) (by decide) ⟨#[116, 110]⟩ 55 (by kernel_rfl) (by decide) ent17 (fun xs hx h1 h2 => by
  by_cases hm : (xs.length : Int) ≤ 1
  · obtain ⟨a0, rfl⟩ := len1 (xs := xs) (by omega) (by omega)
    exact rl21 (ask_116 a0 (hx _ (by simp))) (fun y0 y1 q0 q1 => by clear h1 h2 hx; obtain ⟨v0, h0, rfl⟩ := pk_t q0; obtain ⟨v1, h1, rfl⟩ := pk_n q1; exact rk_left v0 h0 v1 h1.1 h1.2)
  · obtain ⟨a0, a1, rfl⟩ := len2 (xs := xs) (by omega) (by omega)
    exact rl2 (ask_116 a0 (hx _ (by simp))) (ask_110 a1 (hx _ (by simp))) (fun y0 y1 q0 q1 => by clear h1 h2 hx; obtain ⟨v0, h0, rfl⟩ := pk_t q0; obtain ⟨v1, h1, rfl⟩ := pk_n q1; exact rk_left v0 h0 v1 h1.1 h1.2))
theorem sr17 : SomeRow 17 := sr_of 17 (by decide) ⟨#[82, 73, 71, 72, 84]⟩ 1 2 (by kernel_rfl) (by decide) (by decide) ⟨#[116, 110]⟩ 58 (by kernel_rfl) (by decide) ent18 (fun xs hx h1 h2 => by
  by_cases hm : (xs.length : Int) ≤ 1
  · obtain ⟨a0, rfl⟩ := len1 (xs := xs) (by omega) (by omega)
    exact rl21 (ask_116 a0 (hx _ (by simp))) (fun y0 y1 q0 q1 => by clear h1 h2 hx; obtain ⟨v0, h0, rfl⟩ := pk_t q0; obtain ⟨v1, h1, rfl⟩ := pk_n q1; exact rk_right v0 h0 v1 h1.1 h1.2)
  · obtain ⟨a0, a1, rfl⟩ := len2 (xs := xs) (by omega) (by omega)
    exact rl2 (ask_116 a0 (hx _ (by simp))) (ask_110 a1 (hx _ (by simp))) (fun y0 y1 q0 q1 => by clear h1 h2 hx; obtain ⟨v0, h0, rfl⟩ := pk_t q0; obtain ⟨v1, h1, rfl⟩ := pk_n q1; exact rk_right v0 h0 v1 h1.1 h1.2))
theorem sr18 : SomeRow 18 := sr_of 18 (by decide) ⟨#[77, 73, 68]⟩ 3 3 (by kernel_rfl) (by decide) (by decide) ⟨#[116, 110, 110]⟩ 60 (by kernel_rfl) (by decide) ent19 (fun xs hx h1 h2 => by
  obtain ⟨a0, a1, a2, rfl⟩ := len3 (xs := xs) (by omega) (by omega)
  exact rl3 (ask_116 a0 (hx _ (by simp))) (ask_110 a1 (hx _ (by simp))) (ask_110 a2 (hx _ (by simp))) (fun y0 y1 y2 q0 q1 q2 => by clear h1 h2 hx; obtain ⟨v0, h0, rfl⟩ := pk_t q0; obtain ⟨v1, h1, rfl⟩ := pk_n q1; obtain ⟨v2, h2, rfl⟩ := pk_n q2; exact rk_mid v0 h0 v1 h1.1 h1.2 v2 h2.1 h2.2))
theorem sr19 : SomeRow 19 := sr_of 19 (by decide) ⟨#[85, 80, 80, 69, 82]⟩ 1 1 (by kernel_rfl) (by decide) (by decide) ⟨#[116]⟩ 62 (by kernel_rfl) (by decide) ent20 (fun xs hx h1 h2 => by
  obtain ⟨a0, rfl⟩ := len1 (xs := xs) (by omega) (by omega)
  exact rl1 (ask_116 a0 (hx _ (by simp))) (fun y0 q0 => by clear h1 h2 hx; obtain ⟨v0, h0, rfl⟩ := pk_t q0; exact rk_upper v0 h0))
theorem sr20 : SomeRow 20 := sr_of 20 (by decide) ⟨#[76, 79, 87, 69, 82]⟩ 1 1 (by kernel_rfl) (by decide) (by decide) ⟨#[116]⟩ 65 (by kernel_rfl) (by decide) ent21 (fun xs hx h1 h2 => by
  obtain ⟨a0, rfl⟩ := len1 (xs := xs) (by omega) (by omega)
  exact rl1 (ask_116 a0 (hx _ (by simp))) (fun y0 q0 => by clear h1 h2 hx; obtain ⟨v0, h0, rfl⟩ := pk_t q0; exact rk_lower v0 h0))
theorem sr21 : SomeRow 21 := sr_of 21 (by decide) ⟨#[84, 82, 73, 77]⟩ 1 1 (by kernel_rfl) (by decide) (by decide) ⟨#[116]⟩ 67 (by kernel_rfl) (by decide) ent22 (fun xs hx h1 h2 => by
  obtain ⟨a0, rfl⟩ := len1 (xs := xs) (by omega) (by omega)
  exact rl1 (ask_116 a0 (hx _ (by simp))) (fun y0 q0 => by clear h1 h2 hx; obtain ⟨v0, h0, rfl⟩ := pk_t q0; exact rk_trim v0 h0))
theorem sr22 : SomeRow 22 := sr_of 22 (by decide) ⟨#[82, 69, 86, 69, 82, 83, 69]⟩ 1 1 (by kernel_rfl) (by decide) (by decide) ⟨#[116]⟩ 69 (by kernel_rfl) (by decide) ent23 (fun xs hx h1 h2 => by
  obtain ⟨a0, rfl⟩ := len1 (xs := xs) (by omega) (by omega)
  exact rl1 (ask_116 a0 (hx _ (by simp))) (fun y0 q0 => by clear h1 h2 hx; obtain ⟨v0, h0, rfl⟩ := pk_t q0; exact rk_turn v0 h0))
theorem sr23 : SomeRow 23 := sr_of 23 (by decide) ⟨#[70, 73, 78, 68]⟩ 2 3 (by kernel_rfl) (by decide) (by decide) ⟨#[116, 116, 110]⟩ 71 (by kernel_rfl) (by decide) ent24 (fun xs hx h1 h2 => by
  by_cases hm : (xs.length : Int) ≤ 2
  · obtain ⟨a0, a1, rfl⟩ := len2 (xs := xs) (by omega) (by omega)
    exact rl32 (ask_116 a0 (hx _ (by simp))) (ask_116 a1 (hx _ (by simp))) (fun y0 y1 y2 q0 q1 q2 => by clear h1 h2 hx; obtain ⟨v0, h0, rfl⟩ := pk_t q0; obtain ⟨v1, h1, rfl⟩ := pk_t q1; obtain ⟨v2, h2, rfl⟩ := pk_n q2; exact rk_find v0 h0 v1 h1 v2 h2.1 h2.2)
  · obtain ⟨a0, a1, a2, rfl⟩ := len3 (xs := xs) (by omega) (by omega)
    exact rl3 (ask_116 a0 (hx _ (by simp))) (ask_116 a1 (hx _ (by simp))) (ask_110 a2 (hx _ (by simp))) (fun y0 y1 y2 q0 q1 q2 => by clear h1 h2 hx; obtain ⟨v0, h0, rfl⟩ := pk_t q0; obtain ⟨v1, h1, rfl⟩ := pk_t q1; obtain ⟨v2, h2, rfl⟩ := pk_n q2; exact rk_find v0 h0 v1 h1 v2 h2.1 h2.2))
theorem sr24 : SomeRow 24 := sr_of 24 (by decide) ⟨#[83, 85, 66, 83, 84, 73, 84, 85, 84, 69]⟩ 3 3 (by kernel_rfl) (by decide) (by decide) ⟨#[116, 116, 116]⟩ 72 (by kernel_rfl) (by decide) ent25 (fun xs hx h1 h2 => by
  obtain ⟨a0, a1, a2, rfl⟩ := len3 (xs := xs) (by omega) (by omega)
  exact rl3 (ask_116 a0 (hx _ (by simp))) (ask_116 a1 (hx _ (by simp))) (ask_116 a2 (hx _ (by simp))) (fun y0 y1 y2 q0 q1 q2 => by clear h1 h2 hx; obtain ⟨v0, h0, rfl⟩ := pk_t q0; obtain ⟨v1, h1, rfl⟩ := pk_t q1; obtain ⟨v2, h2, rfl⟩ := pk_t q2; exact rk_subst v0 v1 v2 h0 h1 h2))
theorem sr25 : SomeRow 25 := sr_of 25 (by decide) ⟨#[82, 69, 80, 76, 65, 67, 69]⟩ 4 4 (by kernel_rfl) (by decide) (by decide) ⟨#[116, 110, 110, 116]⟩ 74 (by kernel_rfl) (by decide) ent26 (fun xs hx h1 h2 => by
  obtain ⟨a0, a1, a2, a3, rfl⟩ := len4 (xs := xs) (by omega) (by omega)
  exact rl4 (ask_116 a0 (hx _ (by simp))) (ask_110 a1 (hx _ (by simp))) (ask_110 a2 (hx _ (by simp))) (ask_116 a3 (hx _ (by simp))) (fun y0 y1 y2 y3 q0 q1 q2 q3 => by clear h1 h2 hx; obtain ⟨v0, h0, rfl⟩ := pk_t q0; obtain ⟨v1, h1, rfl⟩ := pk_n q1; obtain ⟨v2, h2, rfl⟩ := pk_n q2; obtain ⟨v3, h3, rfl⟩ := pk_t q3; exact rk_repl v0 h0 v1 h1.1 h1.2 v2 h2.1 h2.2 v3 h3))
theorem sr26 : SomeRow 26 := sr_of 26 (by decide) ⟨#[82, 69, 80, 84]⟩ 2 2 (by kernel_rfl) (by decide) (by decide) ⟨#[116, 110]⟩ 75 (by kernel_rfl) (by decide) ent27 (fun xs hx h1 h2 => by
  obtain ⟨a0, a1, rfl⟩ := len2 (xs := xs) (by omega) (by omega)
  exact rl2 (ask_116 a0 (hx _ (by simp))) (ask_110 a1 (hx _ (by simp))) (fun y0 y1 q0 q1 => by clear h1 h2 hx; obtain ⟨v0, h0, rfl⟩ := pk_t q0; obtain ⟨v1, h1, rfl⟩ := pk_n q1; exact rk_rept v0 h0 v1 h1.1 h1.2))
theorem sr27 : SomeRow 27 := sr_of 27 (by decide) ⟨#[69, 88, 65, 67, 84]⟩ 2 2 (by kernel_rfl) (by decide) (by decide) ⟨#[116, 116]⟩ 77 (by kernel_rfl) (by decide) ent28 (fun xs hx h1 h2 => by
  obtain ⟨a0, a1, rfl⟩ := len2 (xs := xs) (by omega) (by omega)
  exact rl2 (ask_116 a0 (hx _ (by simp))) (ask_116 a1 (hx _ (by simp))) (fun y0 y1 q0 q1 => by clear h1 h2 hx; obtain ⟨v0, h0, rfl⟩ := pk_t q0; obtain ⟨v1, h1, rfl⟩ := pk_t q1; exact rk_exact v0 v1))
theorem sr28 : SomeRow 28 := sr_of 28 (by decide) ⟨#[67, 79, 68, 69]⟩ 1 1 (by kernel_rfl) (by decide) (by decide) ⟨#[116]⟩ 78 (by kernel_rfl) (by decide) ent29 (fun xs hx h1 h2 => by
  obtain ⟨a0, rfl⟩ := len1 (xs := xs) (by omega) (by omega)
  exact rl1 (ask_116 a0 (hx _ (by simp))) (fun y0 q0 => by clear h1 h2 hx; obtain ⟨v0, h0, rfl⟩ := pk_t q0; exact rk_code v0 h0))
theorem sr29 : SomeRow 29 := sr_of 29 (by decide) ⟨#[67, 72, 65, 82]⟩ 1 1 (by kernel_rfl) (by decide) (by decide) ⟨#[110]⟩ 81 (by kernel_rfl) (by decide) ent30 (fun xs hx h1 h2 => by
  obtain ⟨a0, rfl⟩ := len1 (xs := xs) (by omega) (by omega)
  exact rl1 (ask_110 a0 (hx _ (by simp))) (fun y0 q0 => by clear h1 h2 hx; obtain ⟨v0, h0, rfl⟩ := pk_n q0; exact rk_char v0 h0.1 h0.2))
theorem sr30 : SomeRow 30 := sr_of 30 (by decide) ⟨#[86, 65, 76, 85, 69]⟩ 1 1 (by kernel_rfl) (by decide) (by decide) ⟨#[110]⟩ 83 (by kernel_rfl) (by decide) ent31 (fun xs hx h1 h2 => by
  obtain ⟨a0, rfl⟩ := len1 (xs := xs) (by omega) (by omega)
  exact rl1 (ask_110 a0 (hx _ (by simp))) (fun y0 q0 => by clear h1 h2 hx; obtain ⟨v0, h0, rfl⟩ := pk_n q0; exact rk_value v0 h0.1 h0.2))
theorem sr31 : SomeRow 31 := sr_of 31 (by decide) ⟨#[84, 69, 88, 84]⟩ 1 1 (by kernel_rfl) (by decide) (by decide) ⟨#[116]⟩ 84 (by kernel_rfl) (by decide) ent32 (fun xs hx h1 h2 => by
  obtain ⟨a0, rfl⟩ := len1 (xs := xs) (by omega) (by omega)
  exact rl1 (ask_116 a0 (hx _ (by simp))) (fun y0 q0 => by clear h1 h2 hx; obtain ⟨v0, h0, rfl⟩ := pk_t q0; exact rk_text v0 h0))
theorem sr32 : SomeRow 32 := sr_of 32 (by decide) ⟨#[78]⟩ 1 1 (by kernel_rfl) (by decide) (by decide) ⟨#[118]⟩ 85 (by kernel_rfl) (by decide) ent33 (fun xs hx h1 h2 => by
  obtain ⟨a0, rfl⟩ := len1 (xs := xs) (by omega) (by omega)
  exact rl1 (ask_118 a0 (hx _ (by simp))) (fun y0 q0 => by clear h1 h2 hx; have h0 := q0.1; exact rk_n y0 h0))
theorem sr33 : SomeRow 33 := sr_of 33 (by decide) ⟨#[84]⟩ 1 1 (by kernel_rfl) (by decide) (by decide) ⟨#[118]⟩ 86 (by kernel_rfl) (by decide) ent34 (fun xs hx h1 h2 => by
  obtain ⟨a0, rfl⟩ := len1 (xs := xs) (by omega) (by omega)
  exact rl1 (ask_118 a0 (hx _ (by simp))) (fun y0 q0 => by clear h1 h2 hx; have h0 := q0.1; exact rk_t y0 h0))
theorem sr34 : SomeRow 34 := sr_of 34 (by decide) ⟨#[78, 65]⟩ 0 0 (by kernel_rfl) (by decide) (by decide) ⟨#[]⟩ 87 (by kernel_rfl) (by decide) ent35 (fun xs hx h1 h2 => by
  obtain rfl := len0 h2
  exact look0 _ rk_na)
theorem sr35 : SomeRow 35 := sa_of 35 (by decide) (by decide) ⟨#[73, 83, 66, 76, 65, 78, 75]⟩ (by kernel_rfl) ⟨#[]⟩ 88 (by kernel_rfl) (by decide) ent36 rk_is0
theorem sr36 : SomeRow 36 := sa_of 36 (by decide) (by decide) ⟨#[73, 83, 78, 85, 77, 66, 69, 82]⟩ (by kernel_rfl) ⟨#[]⟩ 89 (by kernel_rfl) (by decide) ent37 rk_is1
theorem sr37 : SomeRow 37 := sa_of 37 (by decide) (by decide) ⟨#[73, 83, 84, 69, 88, 84]⟩ (by kernel_rfl) ⟨#[]⟩ 90 (by kernel_rfl) (by decide) ent38 rk_is3
theorem sr38 : SomeRow 38 := sa_of 38 (by decide) (by decide) ⟨#[73, 83, 76, 79, 71, 73, 67, 65, 76]⟩ (by kernel_rfl) ⟨#[]⟩ 91 (by kernel_rfl) (by decide) ent39 rk_is2
theorem sr39 : SomeRow 39 := sa_of 39 (by decide) (by decide) ⟨#[73, 83, 69, 82, 82, 79, 82]⟩ (by kernel_rfl) ⟨#[]⟩ 92 (by kernel_rfl) (by decide) ent40 rk_is4
theorem sr40 : SomeRow 40 := sa_of 40 (by decide) (by decide) ⟨#[73, 83, 78, 65]⟩ (by kernel_rfl) ⟨#[]⟩ 93 (by kernel_rfl) (by decide) ent41 rk_isna
theorem some_row : ∀ k, k < 41 → SomeRow k
  | 0, _ => sr0
  | 1, _ => sr1
  | 2, _ => sr2
  | 3, _ => sr3
  | 4, _ => sr4
  | 5, _ => sr5
  | 6, _ => sr6
  | 7, _ => sr7
  | 8, _ => sr8
  | 9, _ => sr9
  | 10, _ => sr10
  | 11, _ => sr11
  | 12, _ => sr12
  | 13, _ => sr13
  | 14, _ => sr14
  | 15, _ => sr15
  | 16, _ => sr16
  | 17, _ => sr17
  | 18, _ => sr18
  | 19, _ => sr19
  | 20, _ => sr20
  | 21, _ => sr21
  | 22, _ => sr22
  | 23, _ => sr23
  | 24, _ => sr24
  | 25, _ => sr25
  | 26, _ => sr26
  | 27, _ => sr27
  | 28, _ => sr28
  | 29, _ => sr29
  | 30, _ => sr30
  | 31, _ => sr31
  | 32, _ => sr32
  | 33, _ => sr33
  | 34, _ => sr34
  | 35, _ => sr35
  | 36, _ => sr36
  | 37, _ => sr37
  | 38, _ => sr38
  | 39, _ => sr39
  | 40, _ => sr40
  | k + 41, h => by omega
end Go.Proofs.YtgnmkhjilecdhaaGreatDoor
