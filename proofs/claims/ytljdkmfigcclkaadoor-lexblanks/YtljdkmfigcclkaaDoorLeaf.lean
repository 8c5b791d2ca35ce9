/- What the small functions of package spot answer, for every byte, text and place: proved of the Go text. -/
import Derived.Test.YtljdkmfigcclkaaDoorRows
import Derived.Test.YtljdkmfigcclkaaDoorLex
import Derived.WalkKit
import Derived.WalkSpells
import Derived.WalkLawsBesides
namespace Go.Proofs.YtljdkmfigcclkaaDoor
open Go.RowKit
set_option linter.unusedVariables false

theorem isSmall_any (c : UInt8) (w : World) : Calls Tryd.prog 100 #[.int .u8 c.toNat] w fun e w' => e = .returned (.bool (isS c)) ∧ w' = w := by
  by_cases h1 : 97 ≤ (c.toNat : Int)
  · by_cases h2 : (c.toNat : Int) ≤ 122
    · go_enter Tryd.func100, Tryd.ntmps100
      go_wp2
      go_ret
      exact ⟨ret_bool (by simp [isS]; omega), rfl⟩
    · go_enter Tryd.func100, Tryd.ntmps100
      go_wp2
      go_ret
      exact ⟨ret_bool (by simp [isS]; omega), rfl⟩
  · go_enter Tryd.func100, Tryd.ntmps100
    go_wp2
    go_ret
    exact ⟨ret_bool (by simp [isS]; omega), rfl⟩
theorem isDigit_any (c : UInt8) (w : World) : Calls Tryd.prog 82 #[.int .u8 c.toNat] w fun e w' => e = .returned (.bool (dig c)) ∧ w' = w := by
  by_cases h1 : 48 ≤ (c.toNat : Int)
  · by_cases h2 : (c.toNat : Int) ≤ 57
    · go_enter Tryd.func82, Tryd.ntmps82
      go_wp2
      go_ret
      exact ⟨ret_bool (by simp [dig]; omega), rfl⟩
    · go_enter Tryd.func82, Tryd.ntmps82
      go_wp2
      go_ret
      exact ⟨ret_bool (by simp [dig]; omega), rfl⟩
  · go_enter Tryd.func82, Tryd.ntmps82
    go_wp2
    go_ret
    exact ⟨ret_bool (by simp [dig]; omega), rfl⟩
theorem isLetter_any (c : UInt8) (w : World) : Calls Tryd.prog 81 #[.int .u8 c.toNat] w fun e w' => e = .returned (.bool (isL c)) ∧ w' = w := by
  by_cases h1 : 65 ≤ (c.toNat : Int)
  · by_cases h2 : (c.toNat : Int) ≤ 90
    · go_enter Tryd.func81, Tryd.ntmps81
      go_wp2
      go_ret
      exact ⟨ret_bool (by simp [isL, isC]; omega), rfl⟩
    · go_enter Tryd.func81, Tryd.ntmps81
      go_wp2_with (go_at_call 100; refine (isSmall_any c _).mono ?_; rintro e w' ⟨rfl, rfl⟩)
      go_ret
      exact ⟨ret_bool (by simp [isL, isC]; omega), rfl⟩
  · go_enter Tryd.func81, Tryd.ntmps81
    go_wp2_with (go_at_call 100; refine (isSmall_any c _).mono ?_; rintro e w' ⟨rfl, rfl⟩)
    go_ret
    exact ⟨ret_bool (by simp [isL, isC]; omega), rfl⟩
theorem behindPin_any (s : ByteArray) (i : Nat) (w : World) (hs : s.size ≤ maxLen) (hi : i ≤ s.size) :
    Calls Tryd.prog 79 #[.string s, .int .i64 i] w fun e w' => e = .returned (.int .i64 (pinE s i)) ∧ w' = w := by
  unfold maxLen at hs
  by_cases h : i < s.size
  · have HP := hide (pinE_at s i h)
    cases h1 : ((s[i].toNat : Int) == 36)
    · have HQ : Hid (pinE s i = i) := by rw [eq_36] at h1; rw [HP.out, if_neg (by simpa using h1)]; rfl
      go_enter Tryd.func79, Tryd.ntmps79
      go_wp2
      go_ret
      rw [HQ.out]
      exact ⟨rfl, rfl⟩
    · have HQ : Hid (pinE s i = i + 1) := by rw [eq_36] at h1; rw [HP.out, if_pos (by simpa using h1)]; rfl
      go_enter Tryd.func79, Tryd.ntmps79
      go_wp2
      go_ret
      rw [HQ.out]
      exact ⟨rfl, rfl⟩
  · have HQ := hide (pinE_end s i (by omega))
    go_enter Tryd.func79, Tryd.ntmps79
    go_wp2
    go_ret
    rw [HQ.out]
    exact ⟨rfl, rfl⟩
end Go.Proofs.YtljdkmfigcclkaaDoor
