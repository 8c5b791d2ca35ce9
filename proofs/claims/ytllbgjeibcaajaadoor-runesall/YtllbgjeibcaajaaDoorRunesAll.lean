/- The law RunesAll returns true for every script of calls, of any texts and numbers, in every order, and changes nothing that was there. -/
import Derived.Test.YtllbgjeibcaajaaDoorPlays5
import Derived.Test.YtllbgjeibcaajaaDoorBegun5
namespace Go.Proofs.YtllbgjeibcaajaaDoor
open Go.RowKit Go.Sort
set_option linter.unusedVariables false

/-- The six cells of the script's call at place i. -/
def CellsAt (w : World) (b off i : Nat) : Prop := ∃ (k : Int) (s t u : ByteArray) (n m : Int), w.cell? ⟨b, off + i * 6, none⟩ = some (.int .i64 k) ∧ w.cell? ⟨b, off + i * 6 + 1, none⟩ = some (.string s) ∧ w.cell? ⟨b, off + i * 6 + 2, none⟩ = some (.string t) ∧ w.cell? ⟨b, off + i * 6 + 3, none⟩ = some (.string u) ∧ w.cell? ⟨b, off + i * 6 + 4, none⟩ = some (.int .i64 n) ∧ w.cell? ⟨b, off + i * 6 + 5, none⟩ = some (.int .i64 m) ∧ (-9223372036854775808 ≤ n ∧ n ≤ 9223372036854775807) ∧ (-9223372036854775808 ≤ m ∧ m ≤ 9223372036854775807)
set_option maxHeartbeats 400000 in
theorem runesAll_none (a : Option Addr) (cap : Nat) (w : World) (ht : Tab w) :
    Calls Tryd.prog 3 #[.slice a 0 cap] w fun e w' => e = .returned (.bool true) ∧ Below w.heap.size w w' := by
  have HB := hide (begun_any.out w ht)
  clear ht
  go_enter Tryd.func3, Tryd.ntmps3
  go_wp2_with (go_at_call 4; refine HB.out.mono ?_; rintro e wb ⟨rfl, hb⟩)
  go_loopw [3] (fun i wr => i = .int .i64 0 ∧ Hid (Below w.heap.size w wr)) (fun i _ => 0)
  case atStart => exact ⟨rfl, hide hb⟩
  case round =>
    obtain ⟨rfl, Hb⟩ := hrel
    go_wp2
    go_ret
    exact ⟨rfl, Hb.out⟩
set_option maxHeartbeats 1000000 in
theorem runesAll_some (b off len cap : Nat) (w : World) (hl : len ≤ maxLen) (HO : Hid (∀ i, i < len → CellsAt w b off i)) (ht : Tab w) :
    Calls Tryd.prog 3 #[.slice (some ⟨b, off, none⟩) len cap] w fun e w' => e = .returned (.bool true) ∧ Below w.heap.size w w' := by
  unfold maxLen at hl
  have HB := hide (begun_any.out w ht)
  have HT := hide ht
  clear ht
  go_enter Tryd.func3, Tryd.ntmps3
  go_wp2_with (go_at_call 4; refine HB.out.mono ?_; rintro e wb ⟨rfl, hb⟩)
  go_loopw [3] (fun i wr => ∃ k : Nat, k ≤ len ∧ i = .int .i64 k ∧ Hid (Below w.heap.size w wr)) (fun i _ => len - (intOf i).toNat)
  case atStart => exact ⟨0, Nat.zero_le _, rfl, hide hb⟩
  case round =>
    obtain ⟨k, hk, rfl, Hb⟩ := hrel
    by_cases hlt : k < len
    · obtain ⟨o, s, t, u, n, m, e0, e1, e2, e3, e4, e5, ln, lm⟩ := HO.out k hlt
      have hbs := block_lt_of_cell e0
      have c0 := (Hb.out.cell (p := ⟨b, off + k * 6, none⟩) hbs).trans e0
      have c1 := (Hb.out.cell (p := ⟨b, off + k * 6 + 1, none⟩) hbs).trans e1
      have c2 := (Hb.out.cell (p := ⟨b, off + k * 6 + 2, none⟩) hbs).trans e2
      have c3 := (Hb.out.cell (p := ⟨b, off + k * 6 + 3, none⟩) hbs).trans e3
      have c4 := (Hb.out.cell (p := ⟨b, off + k * 6 + 4, none⟩) hbs).trans e4
      have c5 := (Hb.out.cell (p := ⟨b, off + k * 6 + 5, none⟩) hbs).trans e5
      have HP := hide ((plays_any o s t u n m ln lm).out wr (HT.out.keep Hb.out))
      clear e0 e1 e2 e3 e4 e5 ln lm
      go_wp2_with (go_at_call 5; refine HP.out.mono ?_; rintro e w1 ⟨rfl, hb1⟩)
      go_roundw
      case rel => exact ⟨k + 1, by omega, by go_num, hide (Hb.out.trans (hb1.mono Hb.out.size))⟩
      case measure => simp [intOf]; omega
    · go_wp2
      go_ret
      exact ⟨rfl, Hb.out⟩
end Go.Proofs.YtllbgjeibcaajaaDoor
