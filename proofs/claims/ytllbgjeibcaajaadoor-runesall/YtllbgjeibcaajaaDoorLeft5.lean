/- What runes.Left, Right, Mid, Code and Char answer, for every text and number: proved of the Go text. -/
import Derived.Test.YtllbgjeibcaajaaDoorLen5
namespace Go.Proofs.YtllbgjeibcaajaaDoor
open Go.RowKit Go.Sort
set_option linter.unusedVariables false

theorem left_no (s : ByteArray) (n : Int) (h : n < 0) : CallIs 6 #[.string s, .int .i64 n] (.tuple #[.string no, .int .i64 1]) := by
  intro w
  go_enter Tryd.func6, Tryd.ntmps6
  go_wp2_with fail
  go_ret2
  exact ⟨rfl, Below.refl _ _⟩
theorem left_yes (s : ByteArray) (n : Int) (hs : s.size ≤ 9223372036854775807) (h : 0 ≤ n) (hn : n ≤ 9223372036854775807) : CallIs 6 #[.string s, .int .i64 n] (.tuple #[.string (s.extract 0 (sk s n.toNat 0)), .int .i64 0]) := by
  intro w
  have HB := behind_any s n hs (by omega) hn
  have hle := sk_le s n.toNat 0 (Nat.zero_le _)
  generalize sk s n.toNat 0 = p at *
  have h' : ¬ n < 0 := by omega
  go_enter Tryd.func6, Tryd.ntmps6
  go_wp2_with (go_at_call 20; refine (HB.out _).mono ?_; rintro e w1 ⟨rfl, hb⟩)
  go_ret2
  exact ⟨rfl, hb⟩
theorem right_no (s : ByteArray) (n : Int) (h : n < 0) : CallIs 27 #[.string s, .int .i64 n] (.tuple #[.string no, .int .i64 1]) := by
  intro w
  go_enter Tryd.func27, Tryd.ntmps27
  go_wp2_with fail
  go_ret2
  exact ⟨rfl, Below.refl _ _⟩
theorem right_yes (s : ByteArray) (n : Int) (hs : s.size ≤ 9223372036854775807) (h : 0 ≤ n) (hn : n ≤ 9223372036854775807) : CallIs 27 #[.string s, .int .i64 n] (.tuple #[.string (s.extract (sk s (rc s 0 - n.toNat) 0) s.size), .int .i64 0]) := by
  intro w
  have hr := rc_size s
  have HL := len_any s hs
  have HB := behind_any s ((rc s 0 : Int) - n) hs (by omega) (by omega)
  rw [show ((rc s 0 : Int) - n).toNat = rc s 0 - n.toNat by omega] at HB
  have hle := sk_le s (rc s 0 - n.toNat) 0 (Nat.zero_le _)
  generalize sk s (rc s 0 - n.toNat) 0 = p at *
  generalize rc s 0 = r at *
  have h' : ¬ n < 0 := by omega
  have w1 : -9223372036854775808 ≤ (r : Int) - n := by omega
  have w2 : (r : Int) - n ≤ 9223372036854775807 := by omega
  go_enter Tryd.func27, Tryd.ntmps27
  go_wp2_with (first | (go_at_call 20; refine (HB.out _).mono ?_; rintro e w2 ⟨rfl, hb2⟩) | (go_at_call 11; refine (HL.out _).mono ?_; rintro e w1 ⟨rfl, hb⟩))
  go_ret2
  exact ⟨rfl, next hb hb2⟩
theorem mid_no (s : ByteArray) (k n : Int) (h : k < 1 ∨ n < 0) : CallIs 28 #[.string s, .int .i64 k, .int .i64 n] (.tuple #[.string no, .int .i64 1]) := by
  intro w
  by_cases h1 : k < 1
  · go_enter Tryd.func28, Tryd.ntmps28
    go_wp2_with fail
    go_ret2
    exact ⟨rfl, Below.refl _ _⟩
  · have h2 : n < 0 := by omega
    go_enter Tryd.func28, Tryd.ntmps28
    go_wp2_with fail
    go_ret2
    exact ⟨rfl, Below.refl _ _⟩
/-- The piece of n runes behind the first k. -/
def midOf (s : ByteArray) (k n : Nat) : ByteArray := s.extract (sk s k 0) (sk s n (sk s k 0))
theorem mid_yes (s : ByteArray) (k n : Int) (hs : s.size ≤ 9223372036854775807) (hk : 1 ≤ k) (hk' : k ≤ 9223372036854775807) (h : 0 ≤ n) (hn : n ≤ 9223372036854775807) :
    CallIs 28 #[.string s, .int .i64 k, .int .i64 n] (.tuple #[.string (midOf s (k - 1).toNat n.toNat), .int .i64 0]) := by
  intro w
  have HB := behind_any s (k - 1) hs (by omega) (by omega)
  have hle := sk_le s (k - 1).toNat 0 (Nat.zero_le _)
  unfold midOf
  generalize sk s (k - 1).toNat 0 = p at *
  have hz := ext_size s p
  have HC := behind_any (s.extract p s.size) n (by omega) (by omega) hn
  have e1 := sk_ext0 s p hle n.toNat
  have e2 := sk_le s n.toNat p hle
  have e3 := sk_ge s n.toNat p
  rw [e1] at HC
  have HX := hide (ext_ext s p (sk s n.toNat p - p) (by omega))
  generalize sk s n.toNat p = q at *
  have e4 : q - p ≤ (s.extract p s.size).size := by omega
  have HX' : Hid ((s.extract p s.size).extract 0 (q - p) = s.extract p q) := by rw [HX.out, show p + (q - p) = q by omega]; exact hide rfl
  clear HX e1 hz
  have a1 : ¬ k < 1 := by omega
  have a2 : ¬ n < 0 := by omega
  have a3 : k - 1 ≤ 9223372036854775807 := by omega
  have a4 : -9223372036854775808 ≤ k - 1 := by omega
  generalize hr : s.extract p s.size = r at *
  generalize hd : q - p = d at *
  rw [← HX'.out]
  clear HX' hd
  replace hr := hide hr
  go_enter Tryd.func28, Tryd.ntmps28
  go_wp2_with fail
  refine (HB.out _).mono ?_
  rintro e w1 ⟨rfl, hb⟩
  have hr' := hr.out
  go_wp2_with fail
  refine (HC.out _).mono ?_
  rintro e w2 ⟨rfl, hb2⟩
  go_wp2_with fail
  go_ret2
  exact ⟨rfl, next hb hb2⟩
theorem code_no : CallIs 8 #[.string no] (.tuple #[.int .i64 0, .int .i64 1]) := by
  intro w
  have hnx : ∀ ty, (Instr.next (.pointer (some ⟨w.heap.size, 0, none⟩)) true ty).run Tryd.prog (w.iter no 0) = _ := fun ty => run_next_end w no 0 ty (by decide)
  go_enter Tryd.func8, Tryd.ntmps8
  go_wp2
  go_loopw [] (fun wr => wr = w.iter no 0) (fun _ => 0)
  case atStart => rfl
  case round =>
    subst hrel
    go_wp2
    go_ret2
    exact ⟨rfl, iter_below _ _ _⟩
theorem code_yes (s : ByteArray) (h : 0 < s.size) : CallIs 8 #[.string s] (.tuple #[.int .i64 (nr s 0), .int .i64 0]) := by
  intro w
  have hnx : ∀ ty, (Instr.next (.pointer (some ⟨w.heap.size, 0, none⟩)) true ty).run Tryd.prog (w.iter s 0) = _ := fun ty => run_next_any w s 0 ty h
  have hl := nr_le s 0
  unfold nr at hl ⊢
  go_enter Tryd.func8, Tryd.ntmps8
  go_wp2
  go_loopw [] (fun wr => wr = w.iter s 0) (fun _ => 0)
  case atStart => rfl
  case round =>
    subst hrel
    go_wp2
    go_ret2
    exact ⟨rfl, iter_below _ _ _⟩
end Go.Proofs.YtllbgjeibcaajaaDoor
