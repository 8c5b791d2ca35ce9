/- What the functions of package spot that go over bytes answer, for every text: proved of the Go text. -/
import Derived.Test.YtcabgnikbgoikaaDoorLeaf
namespace Go.Proofs.YtcabgnikbgoikaaDoor
open Go.RowKit
set_option linter.unusedVariables false

theorem behindAll_L (s : ByteArray) (i : Nat) (w : World) (hs : s.size ≤ maxLen) (hi : i ≤ s.size) :
    Calls Tryd.prog 74 #[.string s, .int .i64 i, .func (.func 75) #[] #[]] w fun e w' => e = .returned (.int .i64 (runE isL s i)) ∧ w' = w := by
  unfold maxLen at hs
  go_enter Tryd.func74, Tryd.ntmps74
  go_wp2
  go_loop [1] (fun a => ∃ k : Nat, k ≤ s.size ∧ a = .int .i64 k ∧ Hid (runE isL s i = runE isL s k)) (fun a => s.size - (intOf a).toNat)
  case atStart => exact ⟨i, hi, rfl, rfl⟩
  case round =>
    obtain ⟨k, hk, rfl, Hr⟩ := hrel
    by_cases hlt : k < s.size
    · cases hc : isL s[k]
      · have HE := hide (Hr.out.trans (runE_stop _ s k hlt hc))
        go_wp2_with (go_at_call 75; refine (isLetter_any _ _).mono ?_; rintro e w' ⟨rfl, rfl⟩)
        go_ret
        rw [HE.out]
        exact ⟨rfl, rfl⟩
      · have HE := hide (Hr.out.trans (runE_step _ s k hlt hc))
        go_wp2_with (go_at_call 75; refine (isLetter_any _ _).mono ?_; rintro e w' ⟨rfl, rfl⟩)
        go_round
        case rel => exact ⟨k + 1, by omega, by go_num, HE.out⟩
        case measure => simp [intOf]; omega
    · have HE := hide (Hr.out.trans (runE_end _ s k (by omega)))
      go_wp2
      go_ret
      rw [HE.out]
      exact ⟨rfl, rfl⟩

theorem behindAll_D (s : ByteArray) (i : Nat) (w : World) (hs : s.size ≤ maxLen) (hi : i ≤ s.size) :
    Calls Tryd.prog 74 #[.string s, .int .i64 i, .func (.func 76) #[] #[]] w fun e w' => e = .returned (.int .i64 (runE dig s i)) ∧ w' = w := by
  unfold maxLen at hs
  go_enter Tryd.func74, Tryd.ntmps74
  go_wp2
  go_loop [1] (fun a => ∃ k : Nat, k ≤ s.size ∧ a = .int .i64 k ∧ Hid (runE dig s i = runE dig s k)) (fun a => s.size - (intOf a).toNat)
  case atStart => exact ⟨i, hi, rfl, rfl⟩
  case round =>
    obtain ⟨k, hk, rfl, Hr⟩ := hrel
    by_cases hlt : k < s.size
    · cases hc : dig s[k]
      · have HE := hide (Hr.out.trans (runE_stop _ s k hlt hc))
        go_wp2_with (go_at_call 76; refine (isDigit_any _ _).mono ?_; rintro e w' ⟨rfl, rfl⟩)
        go_ret
        rw [HE.out]
        exact ⟨rfl, rfl⟩
      · have HE := hide (Hr.out.trans (runE_step _ s k hlt hc))
        go_wp2_with (go_at_call 76; refine (isDigit_any _ _).mono ?_; rintro e w' ⟨rfl, rfl⟩)
        go_round
        case rel => exact ⟨k + 1, by omega, by go_num, HE.out⟩
        case measure => simp [intOf]; omega
    · have HE := hide (Hr.out.trans (runE_end _ s k (by omega)))
      go_wp2
      go_ret
      rw [HE.out]
      exact ⟨rfl, rfl⟩

set_option maxHeartbeats 400000 in
theorem columnOf_yes (s : ByteArray) (w : World) (hs : s.size ≤ maxLen) (hl : lts s.data.toList = true) (hc : col s.data.toList ≤ 702) :
    Calls Tryd.prog 77 #[.string s] w fun e w' => e = .returned (.tuple #[.int .i64 ((col s.data.toList : Int) - 1), .bool true]) ∧ w' = w := by
  unfold maxLen at hs
  have HL := hide hl
  clear hl
  have HV := hide hc
  clear hc
  go_enter Tryd.func77, Tryd.ntmps77
  go_wp2
  go_loop [4, 9, 5, 6] (fun b i _ _ => ∃ k v : Nat, k ≤ s.size ∧ i = .int .i64 k ∧ Hid (v = col (s.data.toList.take k)) ∧ b = .int .i64 v ∧ v ≤ 702) (fun _ i _ _ => s.size - (intOf i).toNat)
  case atStart => exact ⟨0, 0, Nat.zero_le _, rfl, rfl, rfl, Nat.zero_le _⟩
  case round =>
    obtain ⟨k, v, hk, rfl, Hv, rfl, hvb⟩ := hrel
    by_cases hlt : k < s.size
    · have Hn : Hid (col (s.data.toList.take (k + 1)) = v * 26 + ltr s[k]) := by rw [take_snoc s k hlt, col_snoc, ← Hv.out]; rfl
      have hll := lts_at s k hlt HL.out
      cases h2 : isS s[k]
      · obtain ⟨d1, d2, d3⟩ := ltr_cap s[k] hll h2
        have d1' : 65 ≤ (s[k].toNat : Int) := by omega
        have d2' : (s[k].toNat : Int) ≤ 90 := by omega
        have hm := Nat.le_trans (col_take s.data.toList (k + 1)) HV.out
        rw [Hn.out] at hm
        go_wp2_with (go_at_call 94; refine (isSmall_any _ _).mono ?_; rintro e w' ⟨rfl, rfl⟩)
        go_round
        case rel => exact ⟨k + 1, v * 26 + ltr s[k], by omega, by go_num, Hn.out.symm, congrArg (Value.int .i64) (by omega), hm⟩
        case measure => simp [intOf]; omega
      · obtain ⟨d1, d2, d3⟩ := ltr_small s[k] h2
        have d1' : 97 ≤ (s[k].toNat : Int) := by omega
        have d2' : (s[k].toNat : Int) ≤ 122 := by omega
        have hm := Nat.le_trans (col_take s.data.toList (k + 1)) HV.out
        rw [Hn.out] at hm
        go_wp2_with (go_at_call 94; refine (isSmall_any _ _).mono ?_; rintro e w' ⟨rfl, rfl⟩)
        go_round
        case rel => exact ⟨k + 1, v * 26 + ltr s[k], by omega, by go_num, Hn.out.symm, congrArg (Value.int .i64) (by omega), hm⟩
        case measure => simp [intOf]; omega
    · have Hz : Hid (v = col s.data.toList) := by rw [← take_all s k (by omega)]; exact Hv.out
      go_wp2
      go_ret2
      exact ⟨by rw [Hz.out]; rfl, rfl⟩

set_option maxHeartbeats 400000 in
theorem columnOf_no (s : ByteArray) (w : World) (hs : s.size ≤ maxLen) (hl : lts s.data.toList = true) (hc : 702 < col s.data.toList) :
    Calls Tryd.prog 77 #[.string s] w fun e w' => e = .returned (.tuple #[.int .i64 0, .bool false]) ∧ w' = w := by
  unfold maxLen at hs
  have HL := hide hl
  clear hl
  have HV := hide hc
  clear hc
  go_enter Tryd.func77, Tryd.ntmps77
  go_wp2
  go_loop [4, 9, 5, 6] (fun b i _ _ => ∃ k v : Nat, k ≤ s.size ∧ i = .int .i64 k ∧ Hid (v = col (s.data.toList.take k)) ∧ b = .int .i64 v ∧ v ≤ 702) (fun _ i _ _ => s.size - (intOf i).toNat)
  case atStart => exact ⟨0, 0, Nat.zero_le _, rfl, rfl, rfl, Nat.zero_le _⟩
  case round =>
    obtain ⟨k, v, hk, rfl, Hv, rfl, hvb⟩ := hrel
    by_cases hlt : k < s.size
    · have Hn : Hid (col (s.data.toList.take (k + 1)) = v * 26 + ltr s[k]) := by rw [take_snoc s k hlt, col_snoc, ← Hv.out]; rfl
      have hll := lts_at s k hlt HL.out
      cases h2 : isS s[k]
      · obtain ⟨d1, d2, d3⟩ := ltr_cap s[k] hll h2
        have d1' : 65 ≤ (s[k].toNat : Int) := by omega
        have d2' : (s[k].toNat : Int) ≤ 90 := by omega
        by_cases hm : v * 26 + ltr s[k] ≤ 702
        · go_wp2_with (go_at_call 94; refine (isSmall_any _ _).mono ?_; rintro e w' ⟨rfl, rfl⟩)
          go_round
          case rel => exact ⟨k + 1, v * 26 + ltr s[k], by omega, by go_num, Hn.out.symm, congrArg (Value.int .i64) (by omega), hm⟩
          case measure => simp [intOf]; omega
        · go_wp2_with (go_at_call 94; refine (isSmall_any _ _).mono ?_; rintro e w' ⟨rfl, rfl⟩)
          go_ret2
          exact ⟨rfl, rfl⟩
      · obtain ⟨d1, d2, d3⟩ := ltr_small s[k] h2
        have d1' : 97 ≤ (s[k].toNat : Int) := by omega
        have d2' : (s[k].toNat : Int) ≤ 122 := by omega
        by_cases hm : v * 26 + ltr s[k] ≤ 702
        · go_wp2_with (go_at_call 94; refine (isSmall_any _ _).mono ?_; rintro e w' ⟨rfl, rfl⟩)
          go_round
          case rel => exact ⟨k + 1, v * 26 + ltr s[k], by omega, by go_num, Hn.out.symm, congrArg (Value.int .i64) (by omega), hm⟩
          case measure => simp [intOf]; omega
        · go_wp2_with (go_at_call 94; refine (isSmall_any _ _).mono ?_; rintro e w' ⟨rfl, rfl⟩)
          go_ret2
          exact ⟨rfl, rfl⟩
    · exfalso
      have := HV.out
      rw [← take_all s k (by omega), ← Hv.out] at this
      omega

set_option maxHeartbeats 400000 in
theorem rowOf_yes (s : ByteArray) (w : World) (hs : s.size ≤ maxLen) (hl : dgs s.data.toList = true) (hc : val s.data.toList ≤ 65536) :
    Calls Tryd.prog 78 #[.string s] w fun e w' => e = .returned (.tuple #[.int .i64 ((val s.data.toList : Int) - 1), .bool true]) ∧ w' = w := by
  unfold maxLen at hs
  have HL := hide hl
  clear hl
  have HV := hide hc
  clear hc
  go_enter Tryd.func78, Tryd.ntmps78
  go_wp2
  go_loop [4, 8, 5] (fun b i _ => ∃ k v : Nat, k ≤ s.size ∧ i = .int .i64 k ∧ Hid (v = val (s.data.toList.take k)) ∧ b = .int .i64 v ∧ v ≤ 65536) (fun _ i _ => s.size - (intOf i).toNat)
  case atStart => exact ⟨0, 0, Nat.zero_le _, rfl, rfl, rfl, Nat.zero_le _⟩
  case round =>
    obtain ⟨k, v, hk, rfl, Hv, rfl, hvb⟩ := hrel
    by_cases hlt : k < s.size
    · have Hn : Hid (val (s.data.toList.take (k + 1)) = v * 10 + (s[k].toNat - 48)) := by rw [take_snoc s k hlt, val_snoc, ← Hv.out]; rfl
      obtain ⟨d1, d2⟩ := dgs_at s k hlt HL.out
      have d1' : 48 ≤ (s[k].toNat : Int) := by omega
      have d2' : (s[k].toNat : Int) ≤ 57 := by omega
      have hm := Nat.le_trans (val_take s.data.toList (k + 1)) HV.out
      rw [Hn.out] at hm
      go_wp2
      go_round
      case rel => exact ⟨k + 1, v * 10 + (s[k].toNat - 48), by omega, by go_num, Hn.out.symm, congrArg (Value.int .i64) (by omega), hm⟩
      case measure => simp [intOf]; omega
    · have Hz : Hid (v = val s.data.toList) := by rw [← take_all s k (by omega)]; exact Hv.out
      go_wp2
      go_ret2
      exact ⟨by rw [Hz.out]; rfl, rfl⟩

set_option maxHeartbeats 400000 in
theorem rowOf_no (s : ByteArray) (w : World) (hs : s.size ≤ maxLen) (hl : dgs s.data.toList = true) (hc : 65536 < val s.data.toList) :
    Calls Tryd.prog 78 #[.string s] w fun e w' => e = .returned (.tuple #[.int .i64 0, .bool false]) ∧ w' = w := by
  unfold maxLen at hs
  have HL := hide hl
  clear hl
  have HV := hide hc
  clear hc
  go_enter Tryd.func78, Tryd.ntmps78
  go_wp2
  go_loop [4, 8, 5] (fun b i _ => ∃ k v : Nat, k ≤ s.size ∧ i = .int .i64 k ∧ Hid (v = val (s.data.toList.take k)) ∧ b = .int .i64 v ∧ v ≤ 65536) (fun _ i _ => s.size - (intOf i).toNat)
  case atStart => exact ⟨0, 0, Nat.zero_le _, rfl, rfl, rfl, Nat.zero_le _⟩
  case round =>
    obtain ⟨k, v, hk, rfl, Hv, rfl, hvb⟩ := hrel
    by_cases hlt : k < s.size
    · have Hn : Hid (val (s.data.toList.take (k + 1)) = v * 10 + (s[k].toNat - 48)) := by rw [take_snoc s k hlt, val_snoc, ← Hv.out]; rfl
      obtain ⟨d1, d2⟩ := dgs_at s k hlt HL.out
      have d1' : 48 ≤ (s[k].toNat : Int) := by omega
      have d2' : (s[k].toNat : Int) ≤ 57 := by omega
      by_cases hm : v * 10 + (s[k].toNat - 48) ≤ 65536
      · go_wp2
        go_round
        case rel => exact ⟨k + 1, v * 10 + (s[k].toNat - 48), by omega, by go_num, Hn.out.symm, congrArg (Value.int .i64) (by omega), hm⟩
        case measure => simp [intOf]; omega
      · go_wp2
        go_ret2
        exact ⟨rfl, rfl⟩
    · exfalso
      have := HV.out
      rw [← take_all s k (by omega), ← Hv.out] at this
      omega

end Go.Proofs.YtcabgnikbgoikaaDoor
