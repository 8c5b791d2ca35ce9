/- What the small functions of package spot answer, for every byte, text and place: proved of the Go text. -/
import Derived.Test.YtcabgnikbgoikaaDoorRows
import Derived.Test.YtcabgnikbgoikaaDoorLex
import Derived.WalkKit
import Derived.WalkSpells
import Derived.WalkLawsBesides
namespace Go.Proofs.YtcabgnikbgoikaaDoor
open Go.RowKit
set_option linter.unusedVariables false

theorem isSmall_any (c : UInt8) (w : World) : Calls Tryd.prog 94 #[.int .u8 c.toNat] w fun e w' => e = .returned (.bool (isS c)) ∧ w' = w := by
  by_cases h1 : 97 ≤ (c.toNat : Int)
  · by_cases h2 : (c.toNat : Int) ≤ 122
    · go_enter Tryd.func94, Tryd.ntmps94
      go_wp2
      go_ret
      exact ⟨ret_bool (by simp [isS]; omega), rfl⟩
    · go_enter Tryd.func94, Tryd.ntmps94
      go_wp2
      go_ret
      exact ⟨ret_bool (by simp [isS]; omega), rfl⟩
  · go_enter Tryd.func94, Tryd.ntmps94
    go_wp2
    go_ret
    exact ⟨ret_bool (by simp [isS]; omega), rfl⟩
theorem isDigit_any (c : UInt8) (w : World) : Calls Tryd.prog 76 #[.int .u8 c.toNat] w fun e w' => e = .returned (.bool (dig c)) ∧ w' = w := by
  by_cases h1 : 48 ≤ (c.toNat : Int)
  · by_cases h2 : (c.toNat : Int) ≤ 57
    · go_enter Tryd.func76, Tryd.ntmps76
      go_wp2
      go_ret
      exact ⟨ret_bool (by simp [dig]; omega), rfl⟩
    · go_enter Tryd.func76, Tryd.ntmps76
      go_wp2
      go_ret
      exact ⟨ret_bool (by simp [dig]; omega), rfl⟩
  · go_enter Tryd.func76, Tryd.ntmps76
    go_wp2
    go_ret
    exact ⟨ret_bool (by simp [dig]; omega), rfl⟩
theorem isLetter_any (c : UInt8) (w : World) : Calls Tryd.prog 75 #[.int .u8 c.toNat] w fun e w' => e = .returned (.bool (isL c)) ∧ w' = w := by
  by_cases h1 : 65 ≤ (c.toNat : Int)
  · by_cases h2 : (c.toNat : Int) ≤ 90
    · go_enter Tryd.func75, Tryd.ntmps75
      go_wp2
      go_ret
      exact ⟨ret_bool (by simp [isL, isC]; omega), rfl⟩
    · go_enter Tryd.func75, Tryd.ntmps75
      go_wp2_with (go_at_call 94; refine (isSmall_any c _).mono ?_; rintro e w' ⟨rfl, rfl⟩)
      go_ret
      exact ⟨ret_bool (by simp [isL, isC]; omega), rfl⟩
  · go_enter Tryd.func75, Tryd.ntmps75
    go_wp2_with (go_at_call 94; refine (isSmall_any c _).mono ?_; rintro e w' ⟨rfl, rfl⟩)
    go_ret
    exact ⟨ret_bool (by simp [isL, isC]; omega), rfl⟩
theorem behindPin_any (s : ByteArray) (i : Nat) (w : World) (hs : s.size ≤ maxLen) (hi : i ≤ s.size) :
    Calls Tryd.prog 73 #[.string s, .int .i64 i] w fun e w' => e = .returned (.int .i64 (pinE s i)) ∧ w' = w := by
  unfold maxLen at hs
  by_cases h : i < s.size
  · have HP := hide (pinE_at s i h)
    cases h1 : ((s[i].toNat : Int) == 36)
    · have HQ : Hid (pinE s i = i) := by rw [eq_36] at h1; rw [HP.out, if_neg (by simpa using h1)]; rfl
      go_enter Tryd.func73, Tryd.ntmps73
      go_wp2
      go_ret
      rw [HQ.out]
      exact ⟨rfl, rfl⟩
    · have HQ : Hid (pinE s i = i + 1) := by rw [eq_36] at h1; rw [HP.out, if_pos (by simpa using h1)]; rfl
      go_enter Tryd.func73, Tryd.ntmps73
      go_wp2
      go_ret
      rw [HQ.out]
      exact ⟨rfl, rfl⟩
  · have HQ := hide (pinE_end s i (by omega))
    go_enter Tryd.func73, Tryd.ntmps73
    go_wp2
    go_ret
    rw [HQ.out]
    exact ⟨rfl, rfl⟩
end Go.Proofs.YtcabgnikbgoikaaDoor
