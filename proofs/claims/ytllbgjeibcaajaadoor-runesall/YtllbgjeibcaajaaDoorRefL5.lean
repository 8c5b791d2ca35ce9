/- What the reference's Left, Right and Mid answer, for every text and number: proved of the Go text. -/
import Derived.Test.YtllbgjeibcaajaaDoorStarts5
import Derived.Test.YtllbgjeibcaajaaDoorLeft5
namespace Go.Proofs.YtllbgjeibcaajaaDoor
open Go.RowKit Go.Sort
set_option linter.unusedVariables false

theorem ite_min (x y : Int) : (if y < x then y else x) = min x y := by split <;> omega
theorem sk_min (s : ByteArray) (n : Nat) : sk s (min n (rc s 0)) 0 = sk s n 0 := by
  by_cases h : n ≤ rc s 0
  · rw [Nat.min_eq_left h]
  · rw [Nat.min_eq_right (by omega), sk_all s _ 0 (Nat.zero_le _) (Nat.le_refl _), sk_all s n 0 (Nat.zero_le _) (by omega)]
theorem rleft_no (s : ByteArray) (n : Int) (h : n < 0) : CallIs 34 #[.string s, .int .i64 n] (.tuple #[.string no, .int .i64 1]) := by
  intro w
  go_enter Tryd.func34, Tryd.ntmps34
  go_wp2_with fail
  go_ret2
  exact ⟨rfl, Below.refl _ _⟩
theorem rleft_yes (s : ByteArray) (n : Int) (hs : s.size ≤ 200000) (h : 0 ≤ n) : CallIs 34 #[.string s, .int .i64 n] (.tuple #[.string (s.extract 0 (sk s n.toNat 0)), .int .i64 0]) := by
  intro w
  have HS := starts_any s hs
  have hr := rc_size s
  have hm : min n (rc s 0 : Int) = (min n.toNat (rc s 0) : Nat) := by omega
  have hml : min n.toNat (rc s 0) ≤ rc s 0 := Nat.min_le_right _ _
  have hx := hide (sk_min s n.toNat)
  have hle := sk_le s (min n.toNat (rc s 0)) 0 (Nat.zero_le _)
  generalize min n.toNat (rc s 0) = m at *
  have h' : ¬ n < 0 := by omega
  have hmn := ite_min
  go_enter Tryd.func34, Tryd.ntmps34
  go_wp2_with fail
  refine (HS.out _).mono ?_
  rintro e w1 ⟨g, c, rfl, hg, hc, hP, hb⟩
  have c1 := hP m hml
  replace hP := hide hP
  replace hb := hide hb
  have b1 : (m : Int) < (rc s 0 : Int) + 1 := by omega
  have hwr := w_in (rc s 0) (by omega)
  replace hr := hide hr
  generalize sk s m 0 = x at *
  go_wp2_with fail
  go_ret2
  exact ⟨by rw [← hx.out]; rfl, hb.out⟩
theorem rright_no (s : ByteArray) (n : Int) (h : n < 0) : CallIs 35 #[.string s, .int .i64 n] (.tuple #[.string no, .int .i64 1]) := by
  intro w
  go_enter Tryd.func35, Tryd.ntmps35
  go_wp2_with fail
  go_ret2
  exact ⟨rfl, Below.refl _ _⟩
theorem rright_yes (s : ByteArray) (n : Int) (hs : s.size ≤ 200000) (h : 0 ≤ n) : CallIs 35 #[.string s, .int .i64 n] (.tuple #[.string (s.extract (sk s (rc s 0 - n.toNat) 0) s.size), .int .i64 0]) := by
  intro w
  have HS := starts_any s hs
  have hr := rc_size s
  have hm : min n (rc s 0 : Int) = (min n.toNat (rc s 0) : Nat) := by omega
  have hk : (rc s 0 : Int) - (min n.toNat (rc s 0) : Nat) = (rc s 0 - n.toNat : Nat) := by omega
  have hml : rc s 0 - n.toNat ≤ rc s 0 := by omega
  have hle := sk_le s (rc s 0 - n.toNat) 0 (Nat.zero_le _)
  generalize rc s 0 - n.toNat = k at *
  generalize hX : sk s k 0 = x at *
  replace hX := hide hX
  generalize min n.toNat (rc s 0) = m at *
  have h' : ¬ n < 0 := by omega
  have hmn := ite_min
  go_enter Tryd.func35, Tryd.ntmps35
  go_wp2_with fail
  refine (HS.out _).mono ?_
  rintro e w1 ⟨g, c, rfl, hg, hc, hP, hb⟩
  have c1 := hP k hml
  rw [hX.out] at c1
  replace hP := hide hP
  replace hb := hide hb
  have b1 : (k : Int) < (rc s 0 : Int) + 1 := by omega
  have hwr := w_in (rc s 0) (by omega)
  have hwk := w_in k (by clear hwr; omega)
  replace hr := hide hr
  go_wp2_with fail
  go_ret2
  exact ⟨rfl, hb.out⟩
theorem rmid_no (s : ByteArray) (k n : Int) (h : k < 1 ∨ n < 0) : CallIs 36 #[.string s, .int .i64 k, .int .i64 n] (.tuple #[.string no, .int .i64 1]) := by
  intro w
  by_cases h1 : k < 1
  · go_enter Tryd.func36, Tryd.ntmps36
    go_wp2_with fail
    go_ret2
    exact ⟨rfl, Below.refl _ _⟩
  · have h2 : n < 0 := by omega
    go_enter Tryd.func36, Tryd.ntmps36
    go_wp2_with fail
    go_ret2
    exact ⟨rfl, Below.refl _ _⟩
theorem mid_beyond (s : ByteArray) (k n : Nat) (h : rc s 0 ≤ k) : midOf s k n = no := by
  unfold midOf
  rw [sk_all s k 0 (Nat.zero_le _) h]
  apply no_of
  rw [ByteArray.size_extract]
  omega
theorem rmid_far (s : ByteArray) (k n : Int) (hs : s.size ≤ 200000) (hk : 1 ≤ k) (h : 0 ≤ n) (hf : k > (rc s 0 : Int)) : CallIs 36 #[.string s, .int .i64 k, .int .i64 n] (.tuple #[.string (midOf s (k - 1).toNat n.toNat), .int .i64 0]) := by
  intro w
  have HS := starts_any s hs
  have hr := rc_size s
  rw [mid_beyond s _ _ (by omega)]
  have a1 : ¬ k < 1 := by omega
  have a2 : ¬ n < 0 := by omega
  have hwr := w_in (rc s 0) (by omega)
  replace hr := hide hr
  go_enter Tryd.func36, Tryd.ntmps36
  go_wp2_with fail
  refine (HS.out _).mono ?_
  rintro e w1 ⟨g, c, rfl, hg, hc, hP, hb⟩
  go_wp2_with fail
  go_ret2
  exact ⟨rfl, hb⟩
/-- Where the piece ends. -/
theorem rmid_near (s : ByteArray) (a b : Nat) (n : Int) (hs : s.size ≤ 200000) (ha : a < rc s 0) (h : 0 ≤ n) (hb : (n < (rc s 0 : Int) - a ∧ (b : Int) = a + n) ∨ (¬ n < (rc s 0 : Int) - a ∧ b = rc s 0)) : CallIs 36 #[.string s, .int .i64 ((a : Int) + 1), .int .i64 n] (.tuple #[.string (midOf s a n.toNat), .int .i64 0]) := by
  intro w
  have HS := starts_any s hs
  have hr := rc_size s
  have hbl : b ≤ rc s 0 := by omega
  have hab : a ≤ b := by omega
  have e1 : Hid (sk s b 0 = sk s n.toNat (sk s a 0)) := by
    rcases hb with ⟨h1, h2⟩ | ⟨h1, h2⟩
    · rw [← sk_add, show a + n.toNat = b by omega]; exact hide rfl
    · rw [h2, ← sk_add, sk_all s _ 0 (Nat.zero_le _) (Nat.le_refl _), sk_all s _ 0 (Nat.zero_le _) (by omega)]; exact hide rfl
  have hl1 := sk_mono s hab 0
  have hl2 := sk_le s b 0 (Nat.zero_le _)
  unfold midOf
  rw [← e1.out]
  generalize hX : sk s a 0 = x at *
  generalize hY : sk s b 0 = y at *
  replace hX := hide hX
  replace hY := hide hY
  have a1 : ¬ (a : Int) + 1 < 1 := by omega
  have a2 : ¬ n < 0 := by omega
  have a3 : ¬ (a : Int) + 1 > (rc s 0 : Int) := by omega
  have b1 : (a : Int) < (rc s 0 : Int) + 1 := by omega
  have b2 : (b : Int) < (rc s 0 : Int) + 1 := by omega
  have wr1 := hide (w_in (rc s 0) (by omega))
  have wr2 := hide (w_in a (by omega))
  have wr3 : Hid (wrap64 ((rc s 0 : Int) - a) = (rc s 0 : Int) - a) := hide (IntWalk.wrap64_in _ ⟨by omega, by omega⟩)
  have wr4 : Hid (wrap64 ((a : Int) + 1) = (a : Int) + 1) := hide (IntWalk.wrap64_in _ ⟨by omega, by omega⟩)
  have wr5 := hide (w_in b (by omega))
  have wr6 : Hid (IntKind.i64.wrap (a : Int) = a) := hide (wrap_small _ (by omega) (by omega))
  replace hl1 := hide hl1
  replace hl2 := hide hl2
  replace hab := hide hab
  replace hbl := hide hbl
  go_enter Tryd.func36, Tryd.ntmps36
  go_wp2_with fail
  refine (HS.out _).mono ?_
  rintro e w1 ⟨g, c, rfl, hg, hc, hP, hbb⟩
  have c1 := hP a (by omega)
  have c2 := hP b hbl.out
  rw [hX.out] at c1
  rw [hY.out] at c2
  replace hP := hide hP
  replace hbb := hide hbb
  replace hr := hide hr
  have wr1 := wr1.out
  have wr2 := wr2.out
  have wr3 := wr3.out
  have wr4 := wr4.out
  have wr5 := wr5.out
  have wr6 := wr6.out
  rcases hb with ⟨h1, h2⟩ | ⟨h1, h2⟩
  · have h3 : (a : Int) + n = (b : Int) := h2.symm
    replace h2 := hide h2
    go_wp2_with fail
    have hl1 := hl1.out
    have hl2 := hl2.out
    go_quiet (fail)
    go_wp2_with fail
    go_ret2
    exact ⟨rfl, below_drewN hbb.out _⟩
  · subst h2
    go_wp2_with fail
    have hl1 := hl1.out
    have hl2 := hl2.out
    go_quiet (fail)
    go_wp2_with fail
    go_ret2
    exact ⟨rfl, below_drewN hbb.out _⟩
end Go.Proofs.YtllbgjeibcaajaaDoor
