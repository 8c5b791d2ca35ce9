/- What runes.Swap answers, for every three texts: proved of the Go text, strings.Count and strings.ReplaceAll by their contracts. -/
import Derived.Test.YtllbgjeibcaajaaDoorSwapMath5
import Derived.Test.YtllbgjeibcaajaaDoorTimes5
import Derived.Test.YtllbgjeibcaajaaDoorRefRune5
namespace Go.Proofs.YtllbgjeibcaajaaDoor
open Go.RowKit Go.Sort
set_option linter.unusedVariables false

theorem swap_empty (s new : ByteArray) : CallIs 32 #[.string s, .string no, .string new] (.tuple #[.string s, .int .i64 0]) := by
  intro w
  go_enter Tryd.func32, Tryd.ntmps32
  go_wp2_with fail
  go_ret2
  exact ⟨rfl, Below.refl _ _⟩
theorem swB_size (s old new : ByteArray) (h : 0 < old.size) : (swB s old new).size + Lib.countB s old * old.size = s.size + Lib.countB s old * new.size := by
  have := swL_len old.data.toList new.data.toList (ne_of_size h) _ s.data.toList (Nat.le_refl _)
  rw [← Lib.size_eq, ← Lib.size_eq, ← Lib.size_eq] at this
  show (swL _ _ _).toArray.size + _ = _
  rw [List.size_toArray]
  exact this
set_option maxHeartbeats 1000000 in
theorem swap_any (s old new : ByteArray) (h1 : s.size ≤ 200000) (h2 : old.size ≤ 200000) (h3 : new.size ≤ 200000) (h0 : 0 < old.size) :
    CallT 32 #[.string s, .string old, .string new] (if (swB s old new).size > 32767 then .tuple #[.string no, .int .i64 2] else .tuple #[.string (swB s old new), .int .i64 0]) := by
  intro w hT
  have hcl := Lib.countB_le old (by omega) s.size s (Nat.le_refl _)
  have hz := swB_size s old new h0
  have HC : Hid (∀ w, Tab w → Calls Tryd.prog 47 #[.string s, .string old] w fun e w' => e = .returned (.int .i64 (Lib.countB s old)) ∧ w' = w) := hide fun w ⟨m, hm⟩ => Tryd.strings_Count_any s old m w (by omega) hm (by omega)
  have hA : Lib.countB s old * new.size ≤ 200000 * 200000 := Nat.mul_le_mul (by omega) h3
  have hBd : Lib.countB s old * old.size ≤ 200000 * 200000 := Nat.mul_le_mul (by omega) h2
  have HR : CallT 48 #[.string s, .string old, .string new] (.string (swB s old new)) := by
    rintro w ⟨m, hm⟩
    have := Tryd.strings_ReplaceAll s old new m w (by omega) hm (by omega) (by omega)
    rw [all_is _ _ _ (ne_of_size h0)] at this
    exact this
  have hmul : ((Lib.countB s old : Nat) : Int) * ((new.size : Int) - old.size) = ((Lib.countB s old * new.size : Nat) : Int) - ((Lib.countB s old * old.size : Nat) : Int) := by rw [Int.mul_sub]; push_cast; rfl
  generalize Lib.countB s old * new.size = P at *
  generalize Lib.countB s old * old.size = M at *
  generalize Lib.countB s old = n at *
  generalize swB s old new = R at *
  have a1 := toList_ne h0
  have a2 := full2 h0
  have a3 := full3 h0
  replace hT := hide hT
  have wa : Hid (wrap64 ((new.size : Int) - old.size) = (new.size : Int) - old.size) := hide (IntWalk.wrap64_in _ ⟨by omega, by omega⟩)
  have wb : Hid (wrap64 ((P : Int) - M) = (P : Int) - M) := hide (IntWalk.wrap64_in _ ⟨by omega, by omega⟩)
  have wc : Hid (wrap64 ((s.size : Int) + ((P : Int) - M)) = (R.size : Int)) := hide (by rw [IntWalk.wrap64_in _ ⟨by omega, by omega⟩]; omega)
  have wd : Hid ((s.size : Int) + ((P : Int) - M) = (R.size : Int)) := hide (by omega)
  replace hz := hide hz
  by_cases hl : R.size > 32767
  · rw [if_pos hl]
    have b1 : (R.size : Int) > 32767 := by omega
    clear hA hBd hcl
    have wa := wa.out
    have wb := wb.out
    have wc := wc.out
    go_enter Tryd.func32, Tryd.ntmps32
    go_wp2_with (go_at_call 47; refine (HC.out _ hT.out).mono ?_; rintro e w' ⟨rfl, rfl⟩)
    go_ret2
    exact ⟨rfl, Below.refl _ _⟩
  · rw [if_neg hl]
    have b1 : ¬ (R.size : Int) > 32767 := by omega
    clear hA hBd hcl
    have wa := wa.out
    have wb := wb.out
    have wc := wc.out
    go_enter Tryd.func32, Tryd.ntmps32
    go_wp2_with (first | (go_at_call 47; refine (HC.out _ hT.out).mono ?_; rintro e w' ⟨rfl, rfl⟩) | (go_at_call 48; refine (HR.out _ hT.out).mono ?_; rintro e w1 ⟨rfl, hb⟩))
    go_ret2
    exact ⟨rfl, hb⟩
end Go.Proofs.YtllbgjeibcaajaaDoor
