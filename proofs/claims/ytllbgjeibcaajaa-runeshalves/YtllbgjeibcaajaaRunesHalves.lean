/- RunesHalves: the first n runes and all others but these are the text; a piece in the midst lies between what is ahead and what is behind it: the law returns true, for every input. Proved of the Go text. -/
import Derived.Test.YtllbgjeibcaajaaBegun5
import Derived.Test.YtllbgjeibcaajaaTimes5
import Derived.Deep.QuietTactic
namespace Go.Proofs.Ytllbgjeibcaajaa
open Go.RowKit Go.Sort
set_option linter.unusedVariables false

theorem ext_join (t : ByteArray) (a b c : Nat) (h1 : a ≤ b) (h2 : b ≤ c) : t.extract a b ++ t.extract b c = t.extract a c := by
  apply ByteArray.ext
  rw [ByteArray.data_append, ByteArray.data_extract, ByteArray.data_extract, ByteArray.data_extract, Array.extract_append_extract, Nat.min_eq_left h1, Nat.max_eq_right h2]
theorem rem_is (n r : Nat) : (n : Int).tmod ((r : Int) + 1) = (n % (r + 1) : Nat) := by
  rw [Int.tmod_eq_emod_of_nonneg (by omega)]; rfl
theorem succ_ne (r : Nat) : ¬ ((r : Int) + 1 = 0) := by omega
theorem succ_beq (r : Nat) : (((r : Int) + 1) == 0) = false := by rw [beq_eq_false_iff_ne]; omega
theorem below_drewN {B : Nat} {a w : World} (h : Below B a w) (n : Nat) : Below B a (w.drewN n) := ⟨h.os, h.tape, h.output, h.size, h.block⟩
set_option maxHeartbeats 2000000 in
set_option maxRecDepth 100000 in
theorem runesHalves_walk (s : ByteArray) (n m : Nat) (hn : n ≤ 65535) (hm : m ≤ 65535) (w : World) (hT : Tab w) :
    Calls Try.prog 3 #[.string s, .int .u16 n, .int .u16 m] w fun e w' => e = .returned (.bool true) ∧ Below w.heap.size w w' := by
  have HB := begun_any
  have HS := short_any s
  have hz := sh_size s
  replace hT := hide hT
  generalize sh s = t at *
  have HL := len_any t (by omega)
  have hr := rc_size t
  have r1 := rem_is n (rc t 0)
  have r2 := rem_is m (rc t 0)
  have k1 : n % (rc t 0 + 1) ≤ rc t 0 := by have := Nat.mod_lt n (show 0 < rc t 0 + 1 by omega); omega
  have k2 : m % (rc t 0 + 1) ≤ rc t 0 := by have := Nat.mod_lt m (show 0 < rc t 0 + 1 by omega); omega
  generalize n % (rc t 0 + 1) = k at *
  generalize m % (rc t 0 + 1) = j at *
  have HA := left_yes t k (by omega) (by omega) (by omega)
  have HR := right_yes t ((rc t 0 : Int) - k) (by omega) (by omega) (by omega)
  rw [show (k : Int).toNat = k by omega] at HA
  rw [show rc t 0 - ((rc t 0 : Int) - k).toNat = k by omega] at HR
  have hp := sk_le t k 0 (Nat.zero_le _)
  obtain ⟨j', hj, hjd⟩ : ∃ j', k + j' ≤ rc t 0 ∧ ((k + j ≤ rc t 0 ∧ j' = j) ∨ (rc t 0 < k + j ∧ j' = rc t 0 - k)) := by
    by_cases h : k + j ≤ rc t 0
    · exact ⟨j, h, .inl ⟨h, rfl⟩⟩
    · exact ⟨rc t 0 - k, by omega, .inr ⟨by omega, rfl⟩⟩
  have HM := mid_yes t ((k : Int) + 1) j' (by omega) (by omega) (by omega) (by omega) (by omega)
  rw [show ((k : Int) + 1 - 1).toNat = k by omega, show (j' : Int).toNat = j' by omega] at HM
  have HD := right_yes t ((rc t 0 : Int) - k - j') (by omega) (by omega) (by omega)
  rw [show rc t 0 - ((rc t 0 : Int) - k - j').toNat = k + j' by omega] at HD
  have e1 := ext_join t 0 (sk t k 0) t.size (Nat.zero_le _) hp
  have e2 : t.extract 0 (sk t k 0) ++ midOf t k j' ++ t.extract (sk t (k + j') 0) t.size = t.extract 0 t.size := by
    unfold midOf
    rw [sk_add, ext_join t 0 _ _ (Nat.zero_le _) (sk_ge t j' _), ext_join t 0 _ _ (Nat.zero_le _) (sk_le t j' _ hp)]
  rw [ext_all] at e1 e2
  have hAz : (t.extract 0 (sk t k 0)).size ≤ t.size := by rw [ByteArray.size_extract]; omega
  generalize midOf t k j' = C at *
  generalize t.extract (sk t (k + j') 0) t.size = D at *
  generalize t.extract (sk t k 0) t.size = B at *
  generalize t.extract 0 (sk t k 0) = A at *
  generalize rc t 0 = r at *
  replace r1 := hide r1
  replace r2 := hide r2
  obtain ⟨ra, HL2, hl2⟩ : ∃ ra : Nat, CallIs 10 #[.string A] (.int .i64 ra) ∧ ra ≤ A.size := ⟨_, len_any A (by omega), rc_size A⟩
  have f1 : (A ++ B).toList = t.toList := by rw [e1]
  have f2 : Hid (((A ++ C ++ D).toList == t.toList) = true) := by rw [e2]; exact hide (by simp)
  have zz1 := congrArg ByteArray.size e1
  have zz2 := congrArg ByteArray.size e2
  rw [ByteArray.size_append] at zz1 zz2
  have zz3 : (A ++ C).size = A.size + C.size := ByteArray.size_append
  have z1 : A.size + B.size ≤ 200000 := by omega
  have z2 : (A ++ C).size + D.size ≤ 200000 := by omega
  have z3 : A.size + C.size ≤ 200000 := by omega
  clear e1 e2 hp zz1 zz2 zz3
  have g1 : Hid (¬ (r : Int) < 0) := hide (by omega)
  have g2 : Hid (¬ (r : Int) > t.size) := hide (by omega)
  have g3 := hide (wrap_small ((r : Int) + 1) (by omega) (by omega))
  have g3' := hide (IntWalk.wrap64_in ((r : Int) + 1) ⟨by omega, by omega⟩)
  have g4 := hide (succ_beq r)
  have g5 := hide (succ_ne r)
  have g6 := hide (IntWalk.wrap64_in ((r : Int) - k) ⟨by omega, by omega⟩)
  have g7 := hide (IntWalk.wrap64_in ((r : Int) - k - j') ⟨by omega, by omega⟩)
  have g8 := hide (IntWalk.wrap64_in ((k : Int) + j) ⟨by omega, by omega⟩)
  have g9 := hide (IntWalk.wrap64_in ((k : Int) + 1) ⟨by omega, by omega⟩)
  have g10 : Hid (¬ (ra : Int) > A.size) := hide (by omega)
  replace hz := hide hz
  replace hr := hide hr
  replace k1 := hide k1
  replace k2 := hide k2
  replace hj := hide hj
  replace hjd := hide hjd
  replace hl2 := hide hl2
  replace f1 := hide f1
  go_enter Try.func3, Try.ntmps3
  go_wp2_with fail
  refine (HB.out _ hT.out).mono ?_
  rintro e w1 ⟨rfl, hb1⟩
  go_wp2_with fail
  refine (HS.out _).mono ?_
  rintro e w2 ⟨rfl, hb2⟩
  go_wp2_with fail
  refine (HL.out _).mono ?_
  rintro e w3 ⟨rfl, hb3⟩
  have hB := hide (next (next hb1 hb2) hb3)
  clear hb1 hb2 hb3 HB HS HL hT
  have g1 := g1.out
  have g2 := g2.out
  go_wp2_with fail
  have g3 := g3.out
  have g4 := g4.out
  have g5 := g5.out
  have r1 := r1.out
  have r2 := r2.out
  go_quiet (fail)
  clear g3 g4 g5 r1 r2
  have hB1 := fun n => below_drewN hB.out n
  replace hB1 := hide hB1
  go_wp2_with fail
  refine (HA.out _).mono ?_
  rintro e w4 ⟨rfl, hb4⟩
  have hB2 := hide (next (hB1.out _) hb4)
  clear hb4 hB1
  have g6 := g6.out
  go_wp2_with fail
  refine (HR.out _).mono ?_
  rintro e w5 ⟨rfl, hb5⟩
  have hB3 := hide (next hB2.out hb5)
  clear hb5 hB2
  have f1 := f1.out
  have g10 := g10.out
  go_wp2_with fail
  refine (HL2.out _).mono ?_
  rintro e w6 ⟨rfl, hb6⟩
  have hB4 := hide (next hB3.out hb6)
  clear hb6 hB3
  have g7 := g7.out
  have g8 := g8.out
  have g9 := g9.out
  obtain ⟨h1, h2⟩ | ⟨h1, h2⟩ := hjd.out
  · subst h2
    have c1 : ¬ (k : Int) + j' > r := by omega
    go_wp2_with fail
    refine (HM.out _).mono ?_
    rintro e w7 ⟨rfl, hb7⟩
    have hB5 := hide (next hB4.out hb7)
    clear hb7 hB4
    go_wp2_with fail
    refine (HD.out _).mono ?_
    rintro e w8 ⟨rfl, hb8⟩
    have hB6 := hide (next hB5.out hb8)
    clear hb8 hB5
    go_wp2_with fail
    go_ret
    exact ⟨ret_bool f2.out, hB6.out⟩
  · have c1 : (k : Int) + j > r := by clear g6 g7 g8 g9; omega
    have e1 : Hid ((r : Int) - k = j') := hide (by have := k1.out; clear g6 g7 g8 g9; omega)
    have e2 : (r : Int) - k - j' = 0 := by have := e1.out; clear g6 g7 g8 g9; omega
    unfold CallIs at HM HD
    rw [e2] at HD
    rw [← e1.out] at HM
    clear e2 g7
    go_wp2_with fail
    refine (HM.out _).mono ?_
    rintro e w7 ⟨rfl, hb7⟩
    have hB5 := hide (next hB4.out hb7)
    clear hb7 hB4
    go_wp2_with fail
    refine (HD.out _).mono ?_
    rintro e w8 ⟨rfl, hb8⟩
    have hB6 := hide (next hB5.out hb8)
    clear hb8 hB5
    go_wp2_with fail
    go_ret
    exact ⟨ret_bool f2.out, hB6.out⟩
end Go.Proofs.Ytllbgjeibcaajaa
