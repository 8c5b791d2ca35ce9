/- What the law's own short and runes.Times answer, for every text and number: proved of the Go text, strings.Repeat by its contract. -/
import Derived.Test.YtgnmkhjilecdhaaGreatDoorK5J
import Derived.Test.YtgnmkhjilecdhaaGreatDoorShelf
import Derived.Lib.Repeat
namespace Go.Proofs.YtgnmkhjilecdhaaGreatDoor.T5
open Go.RowKit Go.Sort
set_option linter.unusedVariables false
set_option maxRecDepth 100000

/-- A text, cut where it is too long to be played. -/
def sh (s : ByteArray) : ByteArray := if s.size > 200000 then s.extract 0 200000 else s
theorem sh_size (s : ByteArray) : (sh s).size ≤ 200000 := by
  unfold sh; split
  · rw [ByteArray.size_extract]; omega
  · omega
theorem toList_ne {t : ByteArray} (h : 0 < t.size) : ¬ t.toList = [] := by
  rw [ByteArray.toList_eq]
  intro e
  have := Lib.size_eq t
  rw [e, List.length_nil] at this
  omega
theorem full2 {t : ByteArray} (h : 0 < t.size) : t.toList.isEmpty = false := by rw [List.isEmpty_eq_false_iff]; exact toList_ne h
theorem full3 {t : ByteArray} (h : 0 < t.size) : (t.toList == []) = false := by rw [beq_eq_false_iff_ne]; exact toList_ne h
/-- The text n times. -/
def rep (s : ByteArray) (n : Nat) : ByteArray := ⟨(Lib.repeatL s.data.toList n).toArray⟩
theorem times_no (s : ByteArray) (n : Int) (h : n < 0) : CallIs 76 #[.string s, .int .i64 n] (.tuple #[.string no, .int .i64 1]) := by
  intro w
  go_enter Tryz.func76, Tryz.ntmps76
  go_wp2_with fail
  go_ret2
  exact ⟨rfl, Below.refl _ _⟩
theorem times_empty (n : Int) (h : 0 ≤ n) : CallIs 76 #[.string no, .int .i64 n] (.tuple #[.string no, .int .i64 0]) := by
  intro w
  have h1 : ¬ n < 0 := by omega
  go_enter Tryz.func76, Tryz.ntmps76
  go_wp2_with fail
  go_ret2
  exact ⟨rfl, Below.refl _ _⟩
theorem quo_is (n : Nat) (h : 0 < n) : (32767 : Int).tdiv (n : Int) = (32767 / n : Nat) := by
  rw [Int.tdiv_eq_ediv_of_nonneg (by omega)]; rfl
theorem quo_in (n : Nat) : 32767 / n ≤ 32767 := Nat.div_le_self _ _
theorem times_long (s : ByteArray) (n : Nat) (h0 : 0 < s.size) (h1 : 32767 / s.size < n) : CallIs 76 #[.string s, .int .i64 n] (.tuple #[.string no, .int .i64 2]) := by
  intro w
  have hq := quo_is s.size h0
  have hi := quo_in s.size
  generalize 32767 / s.size = q at *
  have a1 := toList_ne h0
  have a2 := full2 h0
  have a3 := full3 h0
  have a4 : ¬ (n : Int) < 0 := by omega
  have a5 : (n : Int) > q := by omega
  have a6 : ¬ (s.size : Int) = 0 := by omega
  have a7 : ((s.size : Int) == 0) = false := by simpa using a6
  go_enter Tryz.func76, Tryz.ntmps76
  go_wp2_with fail
  go_ret2
  exact ⟨rfl, Below.refl _ _⟩
theorem times_yes (s : ByteArray) (n : Nat) (h0 : 0 < s.size) (h1 : n ≤ 32767 / s.size) : CallIs 76 #[.string s, .int .i64 n] (.tuple #[.string (rep s n), .int .i64 0]) := by
  intro w
  have hq := quo_is s.size h0
  have hi := quo_in s.size
  have HR : CallIs 116 #[.string s, .int .i64 n] (.string (rep s n)) := by
    refine hide fun w => Tryz.strings_Repeat s n w (by omega) ?_
    have := Nat.mul_le_mul_left s.size h1
    have h2 := Nat.mul_div_le 32767 s.size
    omega
  generalize 32767 / s.size = q at *
  generalize rep s n = R at *
  have a1 := toList_ne h0
  have a2 := full2 h0
  have a3 := full3 h0
  have a4 : ¬ (n : Int) < 0 := by omega
  have a5 : ¬ (n : Int) > q := by omega
  have a6 : ¬ (s.size : Int) = 0 := by omega
  have a7 : ((s.size : Int) == 0) = false := by simpa using a6
  go_enter Tryz.func76, Tryz.ntmps76
  go_wp2_with (go_at_call 116; refine (HR.out _).mono ?_; rintro e w1 ⟨rfl, hb⟩)
  go_ret2
  exact ⟨rfl, hb⟩
theorem times_some (s : ByteArray) (n : Nat) : ∃ S E, CallIs 76 #[.string s, .int .i64 n] (.tuple #[.string S, .int .i64 E]) := by
  by_cases h : 0 < s.size
  · by_cases h1 : n ≤ 32767 / s.size
    · exact ⟨_, _, times_yes s n h h1⟩
    · exact ⟨_, _, times_long s n h (by omega)⟩
  · rw [no_of (show s.size = 0 by omega)]
    exact ⟨_, _, times_empty n (by omega)⟩
end Go.Proofs.YtgnmkhjilecdhaaGreatDoor.T5
