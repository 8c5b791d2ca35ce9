/- CalcTexts: a text's beginning and its end are the text; what is put in is found; repeated, turned, capitals. Proved of the Go text. -/
import Derived.Test.YtjmdhfopokmhcaaGreatDoorCtW14
namespace Go.Proofs.YtjmdhfopokmhcaaGreatDoor
open Go.RowKit Go.Sort
set_option linter.unusedVariables false

set_option maxHeartbeats 4000000 in
set_option maxRecDepth 100000 in
theorem ct_far (s u : ByteArray) (n : Int) (h : 10000 < s.size ∨ 10000 < u.size ∨ n < 0 ∨ 20000 < n) : CallB 4 #[.string s, .int .i64 n, .string u] (.bool true) := by
  intro w ht
  have HT := hide ht
  clear ht
  by_cases h1 : 10000 < s.size
  · have p1 : decide ((10000 : Int) < (s.size : Int)) = true := by simp; omega
    clear h
    go_enter Tryz.func4, Tryz.ntmps4
    go_wp2_with fail
    refine (begun14.out _ HT.out).mono ?_
    rintro e w1 ⟨rfl, hb1⟩
    go_wp2_with fail
    go_ret
    exact ⟨rfl, hb1⟩
  have p1 : decide ((10000 : Int) < (s.size : Int)) = false := by simp; omega
  by_cases h2 : 10000 < u.size
  · have p2 : decide ((10000 : Int) < (u.size : Int)) = true := by simp; omega
    clear h h1
    go_enter Tryz.func4, Tryz.ntmps4
    go_wp2_with fail
    refine (begun14.out _ HT.out).mono ?_
    rintro e w1 ⟨rfl, hb1⟩
    go_wp2_with fail
    go_ret
    exact ⟨rfl, hb1⟩
  have p2 : decide ((10000 : Int) < (u.size : Int)) = false := by simp; omega
  by_cases h3 : n < 0
  · have p3 : decide (n < 0) = true := by simp [h3]
    clear h h1 h2 h3
    go_enter Tryz.func4, Tryz.ntmps4
    go_wp2_with fail
    refine (begun14.out _ HT.out).mono ?_
    rintro e w1 ⟨rfl, hb1⟩
    go_wp2_with fail
    go_ret
    exact ⟨rfl, hb1⟩
  have p3 : decide (n < 0) = false := by simp; omega
  have p4 : decide ((20000 : Int) < n) = true := by simp; omega
  clear h h1 h2 h3
  go_enter Tryz.func4, Tryz.ntmps4
  go_wp2_with fail
  refine (begun14.out _ HT.out).mono ?_
  rintro e w1 ⟨rfl, hb1⟩
  go_wp2_with fail
  go_ret
  exact ⟨rfl, hb1⟩
theorem join_txt (a b s : ByteArray) (hab : a ++ b = s) (hs : s.size ≤ 10000) : CallT 14 #[.int .i64 6, vV 3 0 a, vV 3 0 b] (vV 3 0 s) := by
  have hz : a.size + b.size = s.size := by rw [← hab, ByteArray.size_append]
  have ga : Good 3 0 a := good_text (by omega)
  have gb : Good 3 0 b := good_text (by omega)
  have hc : chV (cat2 a b) = ⟨3, 0, s⟩ := by
    rw [cat2_app, hab]; unfold chV; rw [if_pos (by omega)]
  have hj := joined_is 3 0 a 3 0 b a b 0 0 (by omega) ((vtxt_plain 3 0 a rfl rfl rfl (sound_good ga)).t) ((vtxt_plain 3 0 b rfl rfl rfl (sound_good gb)).t)
  rw [hc] at hj
  exact bin_join 3 0 a 3 0 b 3 0 a 3 0 b (csound_good ga) (csound_good gb) (by decide) (by decide) 3 0 s hj
theorem ext_none (s : ByteArray) : s.extract 0 0 = no := app_eq (by rw [T5.pc_ext, T5.pc]; rfl)
theorem no_app (u : ByteArray) : no ++ u = u := app_eq (by rw [ByteArray.data_append, Array.toList_append]; rfl)
theorem rept_nums (z nn : Nat) (hz : z ≤ 10000) : ((nn : Int)).tmod 8 = ((nn % 8 : Nat) : Int) ∧ wrap64 ((z : Int) * ((nn % 8 : Nat) : Int)) = ((z * (nn % 8) : Nat) : Int) := by
  have hle : z * (nn % 8) ≤ 10000 * 7 := Nat.mul_le_mul hz (by omega)
  refine ⟨by rw [Int.tmod_eq_emod_of_nonneg (by omega)]; omega, ?_⟩
  rw [← Int.natCast_mul]
  generalize z * (nn % 8) = p at *
  exact IntWalk.wrap64_in _ ⟨by omega, by omega⟩
theorem rept_out (s : ByteArray) (nn : Nat) (out : Va) (hout : (32767 < s.size * (nn % 8) ∧ out = ⟨4, 4, no⟩) ∨ (s.size * (nn % 8) ≤ 32767 ∧ ∃ r : ByteArray, out = vxT r ∧ r.size = s.size * (nn % 8))) : (32767 < ((s.size * (nn % 8) : Nat) : Int) ∧ out = ⟨4, 4, no⟩) ∨ (¬ 32767 < ((s.size * (nn % 8) : Nat) : Int) ∧ ∃ r : ByteArray, out = ⟨3, 0, r⟩ ∧ (r.size : Int) = ((s.size * (nn % 8) : Nat) : Int)) := by
  generalize s.size * (nn % 8) = p at *
  rcases hout with ⟨h1, h2⟩ | ⟨h1, r, h2, h3⟩
  · exact .inl ⟨by omega, h2⟩
  · exact .inr ⟨by omega, r, h2, by rw [h3]⟩
theorem calcTexts_walk (s : ByteArray) (n : Int) (u : ByteArray) : CallB 4 #[.string s, .int .i64 n, .string u] (.bool true) := by
  by_cases hfar : 10000 < s.size ∨ 10000 < u.size ∨ n < 0 ∨ 20000 < n
  · exact ct_far s u n hfar
  have hs : s.size ≤ 10000 := by omega
  have hu : u.size ≤ 10000 := by omega
  have hs2 : s.size ≤ 32767 := by omega
  have hu2 : u.size ≤ 32767 := by omega
  obtain ⟨nn, rfl⟩ : ∃ nn : Nat, n = (nn : Int) := ⟨n.toNat, by omega⟩
  have hn : nn ≤ 20000 := by omega
  have hK := T5.rc_size s
  obtain ⟨m, hm⟩ : ∃ m, min nn (T5.rc s 0) = m := ⟨_, rfl⟩
  have hmK : m ≤ T5.rc s 0 := by omega
  have hp := T5.sk_le s m 0 (Nat.zero_le _)
  have HLen := hide (f_len s hs2)
  have HLeft := f_left s hs2 (m : Int) (by omega) (by omega)
  rw [Int.toNat_natCast] at HLeft
  have HRight := f_right s hs2 ((T5.rc s 0 : Int) - (m : Int)) (by omega) (by omega)
  rw [show T5.rc s 0 - ((T5.rc s 0 : Int) - (m : Int)).toNat = m by omega] at HRight
  have HMid1 := f_mid s hs2 1 (by decide) (by decide) (m : Int) (by omega) (by omega)
  rw [Int.toNat_natCast, show ((1 : Int) - 1).toNat = 0 from rfl, mid_front] at HMid1
  have HMid2 := f_mid s hs2 ((m : Int) + 1) (by omega) (by omega) (T5.rc s 0 : Int) (by omega) (by omega)
  rw [Int.toNat_natCast, show ((m : Int) + 1 - 1).toNat = m by omega, mid_back] at HMid2
  have za : (s.extract 0 (T5.sk s m 0)).size = T5.sk s m 0 := by rw [ByteArray.size_extract]; omega
  have HRep1 := f_repl s hs2 u hu2 (m + 1) 0 (by omega) (by omega) (by omega) (by rw [Nat.add_sub_cancel]; show T5.sk s m 0 + u.size + (s.size - T5.sk s m 0) ≤ 32767; omega)
  rw [Nat.add_sub_cancel, show T5.sk s 0 (T5.sk s m 0) = T5.sk s m 0 from rfl] at HRep1
  have HRep2 := f_repl s hs2 u hu2 1 m (by omega) (by omega) (by omega) (by show 0 + u.size + (s.size - T5.sk s m 0) ≤ 32767; omega)
  rw [show T5.sk s (1 - 1) 0 = 0 from rfl, ext_none, no_app] at HRep2
  have HRev1 := f_turn s hs2
  have HRev2 := f_turn (T5.turned s) (by rw [T5.turned_size]; exact hs2)
  have HLow := f_lower s hs2
  have HUp1 := f_upper (T5.casB 65 97 s) (by rw [low_size]; exact hs2)
  rw [up_low] at HUp1
  have HUp2 := f_upper s hs2
  have eab := T5.halves s (T5.sk s m 0) hp
  have HJoin := join_txt _ _ s eab hs
  obtain ⟨q, hq, hq1, hq2⟩ := find_back s m hmK
  have HFind := f_find _ (by rw [T5.ext_size]; omega) s hs2 q hq
  obtain ⟨out, HRept, hout⟩ := f_rept s hs2 (nn % 8) (by omega)
  obtain ⟨hnr, hsz⟩ := rept_nums s.size nn hs
  have hout' := rept_out s nn out hout
  have hmn : min (nn : Int) (T5.rc s 0 : Int) = (m : Int) := by omega
  by_cases hsn : T5.snd s
  · exact ct_walk s u nn (T5.rc s 0) m _ _ _ _ _ _ q out hs hu (by omega) (by omega) hK hmK hmn eab HLen (hide HLeft) (hide HRight) (hide HMid1) (hide HMid2) (hide HRep1) (hide HRep2) true (T5.sound_is s (by omega) hsn) (fun _ => T5.turned_twice s hsn) (hide HRev1) (hide HRev2) (hide HLow) (hide HUp1) (hide HUp2) HJoin (hide HFind) (by omega) (by omega) _ hnr (hide HRept) _ hsz (hide hout')
  · exact ct_walk s u nn (T5.rc s 0) m _ _ _ _ _ _ q out hs hu (by omega) (by omega) hK hmK hmn eab HLen (hide HLeft) (hide HRight) (hide HMid1) (hide HMid2) (hide HRep1) (hide HRep2) false (T5.sound_isnt s (by omega) hsn) (fun h => by cases h) (hide HRev1) (hide HRev2) (hide HLow) (hide HUp1) (hide HUp2) HJoin (hide HFind) (by omega) (by omega) _ hnr (hide HRept) _ hsz (hide hout')
end Go.Proofs.YtjmdhfopokmhcaaGreatDoor
