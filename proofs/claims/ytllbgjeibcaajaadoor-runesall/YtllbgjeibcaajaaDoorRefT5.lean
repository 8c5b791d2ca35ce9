/- What the reference's Times answers, for every text and number: proved of the Go text. -/
import Derived.Test.YtllbgjeibcaajaaDoorTrim5
import Derived.Test.YtllbgjeibcaajaaDoorTimes5
import Derived.Lib.AppendStr
namespace Go.Proofs.YtllbgjeibcaajaaDoor
open Go.RowKit Go.Sort
set_option linter.unusedVariables false

theorem vs_str (L : List UInt8) (s : ByteArray) : vs L ++ Lib.strCells s = vs (L ++ s.data.toList) := by simp [vs, Lib.strCells]
theorem own_str {B : Nat} {w wr w1 : World} {v v' : Value} {n : Nat} {L : List UInt8} {s : ByteArray} (hB : B ≤ wr.heap.size) (hnx : Below B w wr)
    (hown' : w1.ownsRow B 5 1 v' (n + s.size) (vs L ++ Lib.strCells s)) (hown : wr.ownsRow B 5 1 v n (vs L)) (hgrow : wr.grownBy w1 v.ownBlock) :
    w1.ownsRow B 5 1 v' (n + s.size) (vs (L ++ s.data.toList)) ∧ Below B w w1 := by
  refine ⟨by rw [← vs_str]; exact hown', hnx.grown hgrow hB fun j hj => ?_⟩
  exact (hown.lt j hj).1
theorem rep_snoc (s : ByteArray) (k : Nat) : Lib.repeatL s.data.toList k ++ s.data.toList = Lib.repeatL s.data.toList (k + 1) := by
  rw [Lib.repeatL_add, Lib.repeatL_one]
theorem rtimes_no (s : ByteArray) (n : Int) (h : n < 0) : CallIs 42 #[.string s, .int .i64 n] (.tuple #[.string no, .int .i64 1]) := by
  intro w
  go_enter Tryd.func42, Tryd.ntmps42
  go_wp2_with fail
  go_ret2
  exact ⟨rfl, Below.refl _ _⟩
theorem rtimes_empty (n : Int) (h : 0 ≤ n) : CallIs 42 #[.string no, .int .i64 n] (.tuple #[.string no, .int .i64 0]) := by
  intro w
  have h1 : ¬ n < 0 := by omega
  go_enter Tryd.func42, Tryd.ntmps42
  go_wp2_with fail
  go_ret2
  exact ⟨rfl, Below.refl _ _⟩
theorem rtimes_zero (s : ByteArray) (h0 : 0 < s.size) : CallIs 42 #[.string s, .int .i64 0] (.tuple #[.string no, .int .i64 0]) := by
  intro w
  have a7 : ((s.size : Int) == 0) = false := by rw [beq_eq_false_iff_ne]; omega
  go_enter Tryd.func42, Tryd.ntmps42
  go_wp2_with fail
  go_ret2
  exact ⟨rfl, Below.refl _ _⟩
theorem rtimes_long (s : ByteArray) (n : Nat) (h0 : 0 < s.size) (h1 : 32767 / s.size < n) : CallIs 42 #[.string s, .int .i64 n] (.tuple #[.string no, .int .i64 2]) := by
  intro w
  have hq := quo_is s.size h0
  have hiq := quo_in s.size
  have a4 : ¬ (n : Int) < 0 := by omega
  have a6 : ¬ (s.size : Int) = 0 := by omega
  have a7 : ((s.size : Int) == 0) = false := by simpa using a6
  have hn : 0 < n := Nat.lt_of_le_of_lt (Nat.zero_le _) h1
  have a8 : ((n : Int) == 0) = false := by clear hq; rw [beq_eq_false_iff_ne]; omega
  by_cases hb : (s.size : Int) > 32767
  · go_enter Tryd.func42, Tryd.ntmps42
    go_wp2_with fail
    go_ret2
    exact ⟨rfl, Below.refl _ _⟩
  · generalize 32767 / s.size = q at *
    have a5 : (n : Int) > q := by omega
    go_enter Tryd.func42, Tryd.ntmps42
    go_wp2_with fail
    go_ret2
    exact ⟨rfl, Below.refl _ _⟩
set_option maxHeartbeats 1000000 in
theorem rtimes_yes (s : ByteArray) (n : Nat) (hn : 0 < n) (h0 : 0 < s.size) (h1 : n ≤ 32767 / s.size) : CallIs 42 #[.string s, .int .i64 n] (.tuple #[.string (rep s n), .int .i64 0]) := by
  intro w
  obtain ⟨i0, hi, hz0, hz1, hz2⟩ := info_parts info_u8
  have hq := quo_is s.size h0
  have hi' := quo_in s.size
  have hprod : s.size * n ≤ 32767 := Nat.le_trans (Nat.mul_le_mul_left _ h1) (Nat.mul_div_le _ _)
  have hss : s.size ≤ 32767 := Nat.le_trans (Nat.le_mul_of_pos_right _ hn) hprod
  have a4 : ¬ (n : Int) < 0 := by omega
  have a6 : ¬ (s.size : Int) = 0 := by omega
  have a7 : ((s.size : Int) == 0) = false := by simpa using a6
  have a8 : ((n : Int) == 0) = false := by rw [beq_eq_false_iff_ne]; omega
  have a9 : ¬ (s.size : Int) > 32767 := by omega
  generalize 32767 / s.size = q at *
  have a5 : ¬ (n : Int) > q := by omega
  go_enter Tryd.func42, Tryd.ntmps42
  go_wp2_with fail
  clear a5 a7 a8 a9 a6 a4 hq
  go_loopw [6, 7] (fun v i wr => ∃ k : Nat, k ≤ n ∧ i = .int .i64 k ∧ Hid (wr.ownsRow w.heap.size 5 1 v (k * s.size) (vs (Lib.repeatL s.data.toList k))) ∧ Hid (Below w.heap.size w wr)) (fun _ i _ => n - (intOf i).toNat)
  case atStart => exact ⟨0, Nat.zero_le _, rfl, hide (by rw [Nat.zero_mul]; exact World.ownsRow_nil _ _ _ _), hide (Below.refl _ _)⟩
  case round =>
    obtain ⟨k, hk, rfl, hown, hB⟩ := hrel
    have hwz := hB.out.size
    by_cases hlt : k < n
    · have hbd : k * s.size + s.size ≤ 32767 := by
        have := Nat.mul_le_mul_left s.size (show k + 1 ≤ n from hlt)
        rw [Nat.mul_add, Nat.mul_one, Nat.mul_comm] at this
        omega
      have hk1 : (k : Int) + 1 ≤ 9223372036854775807 := by omega
      have hown0 := hown.out
      have hsn := hide (rep_snoc s k)
      have hmu : Hid (k * s.size + s.size = (k + 1) * s.size) := hide (by rw [Nat.add_mul, Nat.one_mul])
      replace hprod := hide hprod
      go_wp2_with (at_builtin; refine Lib.wpList_append_own_string _ rfl _ _ 47 9 rfl w.heap.size 5 i0 Tryd.underlying47 Tryd.underlying9 hi hz0 hz1 hz2 _ _ _ rfl hown0 s rfl (by unfold maxLen; omega) (by omega) hwz ?_)
      intro v' w1 hown' hgrow _
      have R := hide (own_str hwz hB.out hown' hown0 hgrow)
      clear hown' hgrow hown0
      go_wp2
      go_roundw
      case rel => exact ⟨k + 1, by omega, by go_num, hide (by rw [← hmu.out, ← hsn.out]; exact R.out.1), hide R.out.2⟩
      case measure => simp [intOf]; omega
    · obtain rfl : k = n := by omega
      have hcv := conv_own hown.out
      change _ = Result.ok (Value.string (rep s k)) wr at hcv
      replace hprod := hide hprod
      go_wp2
      go_ret2
      exact ⟨rfl, hB.out⟩
end Go.Proofs.YtllbgjeibcaajaaDoor
