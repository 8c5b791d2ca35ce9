/- whole.Read answers the number of a text in its one form, ErrNumber for any other text, ErrOver for a number beyond 64 bits: proved of the Go text for every text. -/
import Derived.Test.YtcabgnikbgoikaaDoorRows
import Derived.Test.YtcabgnikbgoikaaDoorMath
import Derived.Test.YtcabgnikbgoikaaDoorBytes
import Derived.Test.YtcabgnikbgoikaaDoorSums
import Derived.WalkKit
import Derived.WalkSpells
import Derived.WalkLawsBesides
namespace Go.Proofs.YtcabgnikbgoikaaDoor
open Go.RowKit
set_option linter.unusedVariables false

theorem dgs_step (s : ByteArray) (k : Nat) (h : k < s.size) (hd : dgs (s.data.toList.take k) = true) (hc : 48 ≤ (s[k].toNat : Int) ∧ (s[k].toNat : Int) ≤ 57) : dgs (s.data.toList.take (k + 1)) = true := by
  rw [take_snoc s k h, dgs_snoc, hd]
  simp [dig]; omega
theorem dgs_stop (s : ByteArray) (k : Nat) (h : k < s.size) (hc : ¬ (48 ≤ (s[k].toNat : Int) ∧ (s[k].toNat : Int) ≤ 57)) : dgs s.data.toList = false := by
  rw [Bool.eq_false_iff]
  intro hd
  have := dgs_at s k h hd
  omega

set_option maxHeartbeats 1000000 in
theorem isForm_any (s : ByteArray) (w : World) (hs : s.size ≤ maxLen) :
    Calls Tryd.prog 68 #[.string s] w fun e w' => e = .returned (.bool (formB s)) ∧ w' = w := by
  unfold maxLen at hs
  cases h0 : (s.toList == [48])
  · by_cases hp : 0 < s.size
    · have n1 := toList_ne s hp
      have n2 := isEmpty_ne s hp
      cases h1 : ((s[0].toNat : Int) == 45)
      · cases h2 : ((s[0].toNat : Int) == 48)
        · have HF := hide (form_bare s hp h0 h1 h2)
          go_enter Tryd.func68, Tryd.ntmps68
          go_wp2
          go_loop [24, 3] (fun i _ => ∃ k : Nat, k ≤ s.size ∧ i = .int .i64 k ∧ Hid (dgs (s.data.toList.take k) = true)) (fun i _ => s.size - (intOf i).toNat)
          case atStart => exact ⟨0, Nat.zero_le _, rfl, rfl⟩
          case round =>
            obtain ⟨k, hk, rfl, hd⟩ := hrel
            by_cases hlt : k < s.size
            · by_cases hc : 48 ≤ (s[k].toNat : Int) ∧ (s[k].toNat : Int) ≤ 57
              · have HD := hide (dgs_step s k hlt hd.out hc)
                obtain ⟨hc1, hc2⟩ := hc
                go_wp2
                go_round
                case rel => exact ⟨k + 1, by omega, by go_num, HD.out⟩
                case measure => simp [intOf]; omega
              · have HN := hide (dgs_stop s k hlt hc)
                by_cases hc1 : 48 ≤ (s[k].toNat : Int)
                · have hc2 : 57 < (s[k].toNat : Int) := by omega
                  clear hc
                  go_wp2
                  go_ret
                  exact ⟨ret_bool (HF.out.trans HN.out).symm, rfl⟩
                · have hc2 : (s[k].toNat : Int) < 48 := by omega
                  clear hc hc1
                  go_wp2
                  go_ret
                  exact ⟨ret_bool (HF.out.trans HN.out).symm, rfl⟩
            · have HA := hide (show dgs s.data.toList = true by rw [← take_all s k (by omega)]; exact hd.out)
              go_wp2
              go_ret
              exact ⟨ret_bool (HF.out.trans HA.out).symm, rfl⟩
        · have HF := hide (form_lead s hp h0 h2)
          go_enter Tryd.func68, Tryd.ntmps68
          go_wp2
          go_ret
          exact ⟨ret_bool HF.out.symm, rfl⟩
      · obtain ⟨t, ht⟩ : ∃ t, s.extract 1 s.size = t := ⟨_, rfl⟩
        have HS := hide (form_sign s t hp ht h1)
        have hts : t.size = s.size - 1 := by rw [← ht]; simp
        have htm : t.size ≤ 9223372036854775807 := by omega
        by_cases tp : 0 < t.size
        · have m1 := toList_ne t tp
          have m2 := isEmpty_ne t tp
          have hle : (1 : Int) ≤ s.size := by omega
          clear hts
          cases h2 : ((t[0].toNat : Int) == 48)
          · have HF := hide (HS.out.trans (num_else t tp h2))
            go_enter Tryd.func68, Tryd.ntmps68
            go_wp2
            go_loop [24, 3] (fun i _ => ∃ k : Nat, k ≤ t.size ∧ i = .int .i64 k ∧ Hid (dgs (t.data.toList.take k) = true)) (fun i _ => t.size - (intOf i).toNat)
            case atStart => exact ⟨0, Nat.zero_le _, rfl, rfl⟩
            case round =>
              obtain ⟨k, hk, rfl, hd⟩ := hrel
              by_cases hlt : k < t.size
              · by_cases hc : 48 ≤ (t[k].toNat : Int) ∧ (t[k].toNat : Int) ≤ 57
                · have HD := hide (dgs_step t k hlt hd.out hc)
                  obtain ⟨hc1, hc2⟩ := hc
                  go_wp2
                  go_round
                  case rel => exact ⟨k + 1, by omega, by go_num, HD.out⟩
                  case measure => simp [intOf]; omega
                · have HN := hide (dgs_stop t k hlt hc)
                  by_cases hc1 : 48 ≤ (t[k].toNat : Int)
                  · have hc2 : 57 < (t[k].toNat : Int) := by omega
                    clear hc
                    go_wp2
                    go_ret
                    exact ⟨ret_bool (HF.out.trans HN.out).symm, rfl⟩
                  · have hc2 : (t[k].toNat : Int) < 48 := by omega
                    clear hc hc1
                    go_wp2
                    go_ret
                    exact ⟨ret_bool (HF.out.trans HN.out).symm, rfl⟩
              · have HA := hide (show dgs t.data.toList = true by rw [← take_all t k (by omega)]; exact hd.out)
                go_wp2
                go_ret
                exact ⟨ret_bool (HF.out.trans HA.out).symm, rfl⟩
          · have HF := hide (HS.out.trans (num_zero t tp h2))
            go_enter Tryd.func68, Tryd.ntmps68
            go_wp2
            go_ret
            exact ⟨ret_bool HF.out.symm, rfl⟩
        · have HF := hide (HS.out.trans (num_nil t tp))
          have m1 : t.toList = [] := by rw [ByteArray.toList_eq]; exact toList_nil t tp
          have hle : (1 : Int) ≤ s.size := by omega
          clear hts
          go_enter Tryd.func68, Tryd.ntmps68
          go_wp2
          go_ret
          exact ⟨ret_bool HF.out.symm, rfl⟩
    · have HF := hide (form_nil s hp)
      have m1 : s.toList = [] := by rw [ByteArray.toList_eq]; exact toList_nil s hp
      go_enter Tryd.func68, Tryd.ntmps68
      go_wp2
      go_ret
      exact ⟨ret_bool HF.out.symm, rfl⟩
  · have HF := hide (form_zero s h0)
    go_enter Tryd.func68, Tryd.ntmps68
    go_wp2
    go_ret
    exact ⟨ret_bool HF.out.symm, rfl⟩


set_option maxHeartbeats 1000000 in
theorem readBelow_yes (s : ByteArray) (w : World) (hs : s.size ≤ maxLen) (hd : dgs s.data.toList = true) (hv : val s.data.toList ≤ 9223372036854775808) :
    Calls Tryd.prog 69 #[.string s] w fun e w' => e = .returned (.tuple #[.int .i64 (-(val s.data.toList : Int)), .int .i64 0]) ∧ w' = w := by
  unfold maxLen at hs
  have HD := hide hd
  clear hd
  have HV := hide hv
  clear hv
  go_enter Tryd.func69, Tryd.ntmps69
  go_wp2
  go_loop [4, 10] (fun b i => ∃ k v : Nat, k ≤ s.size ∧ i = .int .i64 k ∧ Hid (v = val (s.data.toList.take k)) ∧ b = .int .i64 (-(v : Int)) ∧ v ≤ 9223372036854775808) (fun _ i => s.size - (intOf i).toNat)
  case atStart => exact ⟨0, 0, Nat.zero_le _, rfl, rfl, rfl, Nat.zero_le _⟩
  case round =>
    obtain ⟨k, v, hk, rfl, Hv, rfl, hvb⟩ := hrel
    by_cases hlt : k < s.size
    · obtain ⟨d1, d2⟩ := dgs_at s k hlt HD.out
      have Hn : Hid (val (s.data.toList.take (k + 1)) = v * 10 + (s[k].toNat - 48)) := by rw [take_snoc s k hlt, val_snoc, ← Hv.out]; rfl
      have hm := Nat.le_trans (val_take s.data.toList (k + 1)) HV.out
      rw [Hn.out] at hm
      have d1' : 48 ≤ (s[k].toNat : Int) := by omega
      have d2' : (s[k].toNat : Int) ≤ 57 := by omega
      go_wp2_with (first
        | (go_at_call 88; refine (mul64_yes _ _ _ (by omega) (by omega) (by omega) (by omega) (by omega) (by omega)).mono ?_; rintro e w' ⟨rfl, rfl⟩)
        | (go_at_call 89; refine (sub64_yes _ _ _ (by omega) (by omega) (by omega) (by omega) (by omega) (by omega)).mono ?_; rintro e w' ⟨rfl, rfl⟩))
      go_round
      case rel => exact ⟨k + 1, v * 10 + (s[k].toNat - 48), by omega, by go_num, Hn.out.symm, congrArg (Value.int .i64) (by omega), hm⟩
      case measure => simp [intOf]; omega
    · have Hz : Hid (v = val s.data.toList) := by rw [← take_all s k (by omega)]; exact Hv.out
      go_wp2
      go_ret2
      exact ⟨ret_ii (by rw [Hz.out]) rfl, rfl⟩

set_option maxHeartbeats 1000000 in
theorem readBelow_no (s : ByteArray) (w : World) (hs : s.size ≤ maxLen) (hd : dgs s.data.toList = true) (hv : 9223372036854775808 < val s.data.toList) :
    Calls Tryd.prog 69 #[.string s] w fun e w' => e = .returned (.tuple #[.int .i64 0, .int .i64 13]) ∧ w' = w := by
  unfold maxLen at hs
  have HD := hide hd
  clear hd
  have HV := hide hv
  clear hv
  go_enter Tryd.func69, Tryd.ntmps69
  go_wp2
  go_loop [4, 10] (fun b i => ∃ k v : Nat, k ≤ s.size ∧ i = .int .i64 k ∧ Hid (v = val (s.data.toList.take k)) ∧ b = .int .i64 (-(v : Int)) ∧ v ≤ 9223372036854775808) (fun _ i => s.size - (intOf i).toNat)
  case atStart => exact ⟨0, 0, Nat.zero_le _, rfl, rfl, rfl, Nat.zero_le _⟩
  case round =>
    obtain ⟨k, v, hk, rfl, Hv, rfl, hvb⟩ := hrel
    by_cases hlt : k < s.size
    · obtain ⟨d1, d2⟩ := dgs_at s k hlt HD.out
      have Hn : Hid (val (s.data.toList.take (k + 1)) = v * 10 + (s[k].toNat - 48)) := by rw [take_snoc s k hlt, val_snoc, ← Hv.out]; rfl
      have d1' : 48 ≤ (s[k].toNat : Int) := by omega
      have d2' : (s[k].toNat : Int) ≤ 57 := by omega
      by_cases hm1 : v * 10 ≤ 9223372036854775808
      · by_cases hm : v * 10 + (s[k].toNat - 48) ≤ 9223372036854775808
        · go_wp2_with (first
            | (go_at_call 88; refine (mul64_yes _ _ _ (by omega) (by omega) (by omega) (by omega) (by omega) (by omega)).mono ?_; rintro e w' ⟨rfl, rfl⟩)
            | (go_at_call 89; refine (sub64_yes _ _ _ (by omega) (by omega) (by omega) (by omega) (by omega) (by omega)).mono ?_; rintro e w' ⟨rfl, rfl⟩))
          go_round
          case rel => exact ⟨k + 1, v * 10 + (s[k].toNat - 48), by omega, by go_num, Hn.out.symm, congrArg (Value.int .i64) (by omega), hm⟩
          case measure => simp [intOf]; omega
        · go_wp2_with (first
            | (go_at_call 88; refine (mul64_yes _ _ _ (by omega) (by omega) (by omega) (by omega) (by omega) (by omega)).mono ?_; rintro e w' ⟨rfl, rfl⟩)
            | (go_at_call 89; refine (sub64_no _ _ _ (by omega) (by omega) (by omega) (by omega) (by omega)).mono ?_; rintro e w' ⟨rfl, rfl⟩))
          go_ret2
          exact ⟨rfl, rfl⟩
      · go_wp2_with (go_at_call 88; refine (mul64_no _ _ _ (by omega) (by omega) (by omega) (by omega) (by omega)).mono ?_; rintro e w' ⟨rfl, rfl⟩)
        go_ret2
        exact ⟨rfl, rfl⟩
    · exfalso
      have := HV.out
      rw [← take_all s k (by omega), ← Hv.out] at this
      omega

theorem form_size (s : ByteArray) (h : formB s = true) : 0 < s.size := by
  by_cases hp : 0 < s.size
  · exact hp
  · rw [form_nil s hp] at h; cases h
theorem form_dgs_bare (s : ByteArray) (hp : 0 < s.size) (h : formB s = true) (h1 : ((s[0].toNat : Int) == 45) = false) : dgs s.data.toList = true := by
  cases h0 : (s.toList == [48])
  · cases h2 : ((s[0].toNat : Int) == 48)
    · rw [← form_bare s hp h0 h1 h2]; exact h
    · rw [form_lead s hp h0 h2] at h; cases h
  · rw [ByteArray.toList_eq, beq_iff_eq] at h0; rw [h0]; rfl
theorem form_dgs_sign (s t : ByteArray) (hp : 0 < s.size) (ht : s.extract 1 s.size = t) (h : formB s = true) (h1 : ((s[0].toNat : Int) == 45) = true) : dgs t.data.toList = true := by
  rw [form_sign s t hp ht h1] at h
  by_cases tp : 0 < t.size
  · cases h2 : ((t[0].toNat : Int) == 48)
    · rw [← num_else t tp h2]; exact h
    · rw [num_zero t tp h2] at h; cases h
  · rw [num_nil t tp] at h; cases h

set_option maxHeartbeats 400000 in
theorem read_bad (s : ByteArray) (w : World) (hs : s.size ≤ maxLen) (h : formB s = false) :
    Calls Tryd.prog 52 #[.string s] w fun e w' => e = .returned (.tuple #[.int .i64 0, .int .i64 12]) ∧ w' = w := by
  go_enter Tryd.func52, Tryd.ntmps52
  go_wp2_with (go_at_call 68; refine (isForm_any _ _ (by assumption)).mono ?_; rintro e w' ⟨rfl, rfl⟩)
  go_ret2
  exact ⟨rfl, rfl⟩
set_option maxHeartbeats 400000 in
theorem read_neg (s t : ByteArray) (w : World) (hs : s.size ≤ maxLen) (h : formB s = true) (hp : 0 < s.size) (ht : s.extract 1 s.size = t) (h1 : ((s[0].toNat : Int) == 45) = true) (hv : val t.data.toList ≤ 9223372036854775808) :
    Calls Tryd.prog 52 #[.string s] w fun e w' => e = .returned (.tuple #[.int .i64 (-(val t.data.toList : Int)), .int .i64 0]) ∧ w' = w := by
  have HD := hide (form_dgs_sign s t hp ht h h1)
  have HV := hide hv
  clear hv
  have hts : t.size ≤ maxLen := by rw [← ht]; simp; omega
  have hle : (1 : Int) ≤ s.size := by omega
  go_enter Tryd.func52, Tryd.ntmps52
  go_wp2_with (first | (go_at_call 68; refine (isForm_any _ _ (by assumption)).mono ?_; rintro e w' ⟨rfl, rfl⟩) | (go_at_call 69; refine (readBelow_yes _ _ hts HD.out HV.out).mono ?_; rintro e w' ⟨rfl, rfl⟩))
  go_ret2
  exact ⟨rfl, rfl⟩
set_option maxHeartbeats 400000 in
theorem read_negover (s t : ByteArray) (w : World) (hs : s.size ≤ maxLen) (h : formB s = true) (hp : 0 < s.size) (ht : s.extract 1 s.size = t) (h1 : ((s[0].toNat : Int) == 45) = true) (hv : 9223372036854775808 < val t.data.toList) :
    Calls Tryd.prog 52 #[.string s] w fun e w' => e = .returned (.tuple #[.int .i64 0, .int .i64 13]) ∧ w' = w := by
  have HD := hide (form_dgs_sign s t hp ht h h1)
  have HV := hide hv
  clear hv
  have hts : t.size ≤ maxLen := by rw [← ht]; simp; omega
  have hle : (1 : Int) ≤ s.size := by omega
  go_enter Tryd.func52, Tryd.ntmps52
  go_wp2_with (first | (go_at_call 68; refine (isForm_any _ _ (by assumption)).mono ?_; rintro e w' ⟨rfl, rfl⟩) | (go_at_call 69; refine (readBelow_no _ _ hts HD.out HV.out).mono ?_; rintro e w' ⟨rfl, rfl⟩))
  go_ret2
  exact ⟨rfl, rfl⟩
set_option maxHeartbeats 400000 in
theorem read_pos (s : ByteArray) (w : World) (hs : s.size ≤ maxLen) (h : formB s = true) (hp : 0 < s.size) (h1 : ((s[0].toNat : Int) == 45) = false) (hv : val s.data.toList ≤ 9223372036854775807) :
    Calls Tryd.prog 52 #[.string s] w fun e w' => e = .returned (.tuple #[.int .i64 (val s.data.toList : Int), .int .i64 0]) ∧ w' = w := by
  have HD := hide (form_dgs_bare s hp h h1)
  have HR := hide (readBelow_yes s · hs HD.out (by omega))
  have hm : ((-(val s.data.toList : Int)) == -9223372036854775808) = false := by rw [beq_eq_false_iff_ne]; omega
  generalize val s.data.toList = v at *
  go_enter Tryd.func52, Tryd.ntmps52
  go_wp2_with (first | (go_at_call 68; refine (isForm_any _ _ (by assumption)).mono ?_; rintro e w' ⟨rfl, rfl⟩) | (go_at_call 69; refine (HR.out _).mono ?_; rintro e w' ⟨rfl, rfl⟩))
  go_ret2
  exact ⟨ret_ii (by omega) rfl, rfl⟩
set_option maxHeartbeats 400000 in
theorem read_posover (s : ByteArray) (w : World) (hs : s.size ≤ maxLen) (h : formB s = true) (hp : 0 < s.size) (h1 : ((s[0].toNat : Int) == 45) = false) (hv : 9223372036854775807 < val s.data.toList) :
    Calls Tryd.prog 52 #[.string s] w fun e w' => e = .returned (.tuple #[.int .i64 0, .int .i64 13]) ∧ w' = w := by
  have HD := hide (form_dgs_bare s hp h h1)
  by_cases hm : val s.data.toList ≤ 9223372036854775808
  · have HR := hide (readBelow_yes s · hs HD.out hm)
    have e : val s.data.toList = 9223372036854775808 := by omega
    rw [e] at HR
    clear e hm hv
    go_enter Tryd.func52, Tryd.ntmps52
    go_wp2_with (first | (go_at_call 68; refine (isForm_any _ _ (by assumption)).mono ?_; rintro e w' ⟨rfl, rfl⟩) | (go_at_call 69; refine (HR.out _).mono ?_; rintro e w' ⟨rfl, rfl⟩))
    go_ret2
    exact ⟨rfl, rfl⟩
  · have HR := hide (readBelow_no s · hs HD.out (by omega))
    clear hm hv
    go_enter Tryd.func52, Tryd.ntmps52
    go_wp2_with (first | (go_at_call 68; refine (isForm_any _ _ (by assumption)).mono ?_; rintro e w' ⟨rfl, rfl⟩) | (go_at_call 69; refine (HR.out _).mono ?_; rintro e w' ⟨rfl, rfl⟩))
    go_ret2
    exact ⟨rfl, rfl⟩
end Go.Proofs.YtcabgnikbgoikaaDoor
