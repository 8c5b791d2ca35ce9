/- What runes.Len, behind, Left, Right, Mid and Code answer, for every text: proved of the Go text. -/
import Derived.Test.YtllbgjeibcaajaaDoorKit5
namespace Go.Proofs.YtllbgjeibcaajaaDoor
open Go.RowKit Go.Sort
set_option linter.unusedVariables false

theorem len_any (s : ByteArray) (hs : s.size ≤ 9223372036854775807) : CallIs 11 #[.string s] (.int .i64 (rc s 0)) := by
  intro w
  go_enter Tryd.func11, Tryd.ntmps11
  go_wp2
  go_loopw [3] (fun n wr => ∃ pos k : Nat, pos ≤ s.size ∧ wr = w.iter s pos ∧ n = .int .i64 k ∧ k + rc s pos = rc s 0) (fun _ wr => s.size - wr.iterPos w.heap.size)
  case atStart => exact ⟨0, 0, Nat.zero_le _, rfl, rfl, by omega⟩
  case round =>
    obtain ⟨pos, k, hle, rfl, rfl, hc⟩ := hrel
    by_cases hp : pos < s.size
    · have hnx : ∀ ty, (Instr.next (.pointer (some ⟨w.heap.size, 0, none⟩)) true ty).run Tryd.prog (w.iter s pos) = _ := fun ty => run_next_any w s pos ty hp
      have hwd := hide (And.intro (wd_pos s pos hp) (wd_le s pos hp))
      have hst := hide (rc_step s pos hp)
      have hrs := hide (rc_size s)
      have hk1 : (k : Int) + 1 ≤ 9223372036854775807 := by have := hst.out; have := hrs.out; omega
      go_wp2
      go_roundw
      case rel =>
        have := hwd.out; have := hst.out; have := hrs.out
        refine ⟨pos + wd s pos, k + 1, by omega, rfl, ?_, by omega⟩
        go_num
      case measure =>
        have := hwd.out
        simp
        unfold wd at this
        omega
    · have hnx : ∀ ty, (Instr.next (.pointer (some ⟨w.heap.size, 0, none⟩)) true ty).run Tryd.prog (w.iter s pos) = _ := fun ty => run_next_end w s pos ty hp
      have he := hide (rc_end s pos hp)
      go_wp2
      go_ret
      have := he.out
      exact ⟨by rw [show rc s 0 = k by omega]; rfl, iter_below _ _ _⟩

/-- Where the bytes behind the first n runes begin. -/
theorem behind_any (s : ByteArray) (n : Int) (hs : s.size ≤ 9223372036854775807) (hn0 : -9223372036854775808 ≤ n) (hn : n ≤ 9223372036854775807) : CallIs 20 #[.string s, .int .i64 n] (.int .i64 (sk s n.toNat 0)) := by
  intro w
  go_enter Tryd.func20, Tryd.ntmps20
  go_wp2
  go_loopw [1] (fun m wr => ∃ (pos : Nat) (i : Int), pos ≤ s.size ∧ wr = w.iter s pos ∧ m = .int .i64 i ∧ sk s i.toNat pos = sk s n.toNat 0 ∧ (pos = 0 → i = n) ∧ i ≤ 9223372036854775807 ∧ -9223372036854775808 ≤ i) (fun _ wr => s.size - wr.iterPos w.heap.size)
  case atStart => exact ⟨0, n, Nat.zero_le _, rfl, rfl, rfl, fun _ => rfl, hn, hn0⟩
  case round =>
    obtain ⟨pos, i, hle, rfl, rfl, hc, hz, hi, hi0⟩ := hrel
    replace hz := hide hz
    replace hc := hide hc
    by_cases hp : pos < s.size
    · have hnx : ∀ ty, (Instr.next (.pointer (some ⟨w.heap.size, 0, none⟩)) true ty).run Tryd.prog (w.iter s pos) = _ := fun ty => run_next_any w s pos ty hp
      by_cases hi1 : i ≤ 0
      · go_wp2
        go_ret
        have := hc.out
        rw [show i.toNat = 0 by omega] at this
        exact ⟨by rw [← this]; rfl, iter_below _ _ _⟩
      · have hwd := hide (And.intro (wd_pos s pos hp) (wd_le s pos hp))
        have hnd := hide (show nx s pos = pos + wd s pos by unfold nx; rw [if_pos hp])
        have hi2 : -9223372036854775808 ≤ i - 1 := by omega
        have hi3 : i - 1 ≤ 9223372036854775807 := by omega
        go_wp2
        go_roundw
        case rel =>
          have := hwd.out; have h2 := hc.out
          refine ⟨pos + wd s pos, i - 1, by omega, rfl, by go_num, ?_, fun h => by omega, by omega, by omega⟩
          rw [← hnd.out, ← h2, show i.toNat = (i - 1).toNat + 1 by omega]
          rfl
        case measure =>
          have := hwd.out
          simp
          unfold wd at this
          omega
    · have hnx : ∀ ty, (Instr.next (.pointer (some ⟨w.heap.size, 0, none⟩)) true ty).run Tryd.prog (w.iter s pos) = _ := fun ty => run_next_end w s pos ty hp
      go_wp2
      go_ret
      have := hc.out
      rw [sk_end s _ pos hp] at this
      exact ⟨by rw [← this, show pos = s.size by omega]; rfl, iter_below _ _ _⟩
end Go.Proofs.YtllbgjeibcaajaaDoor
