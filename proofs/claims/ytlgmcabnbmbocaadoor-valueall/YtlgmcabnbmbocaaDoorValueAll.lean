/- The law ValueAll returns true for every script of calls, of any values and texts, in every order, and changes nothing that was there. -/
import Derived.Test.YtlgmcabnbmbocaaDoorPlays4
namespace Go.Proofs.YtlgmcabnbmbocaaDoor
open Go.RowKit Go.Sort
set_option linter.unusedVariables false

/-- The eight cells of the script's call at place i. -/
def OpAt (w : World) (b off i : Nat) : Prop := ∃ (k a0 a1 : Int) (a2 : ByteArray) (b0 b1 : Int) (b2 s : ByteArray), w.cell? ⟨b, off + i * 8, none⟩ = some (.int .i64 k) ∧ w.cell? ⟨b, off + i * 8 + 1, none⟩ = some (.int .i64 a0) ∧ w.cell? ⟨b, off + i * 8 + 2, none⟩ = some (.int .i64 a1) ∧ w.cell? ⟨b, off + i * 8 + 3, none⟩ = some (.string a2) ∧ w.cell? ⟨b, off + i * 8 + 4, none⟩ = some (.int .i64 b0) ∧ w.cell? ⟨b, off + i * 8 + 5, none⟩ = some (.int .i64 b1) ∧ w.cell? ⟨b, off + i * 8 + 6, none⟩ = some (.string b2) ∧ w.cell? ⟨b, off + i * 8 + 7, none⟩ = some (.string s) ∧ lo ≤ a1 ∧ a1 ≤ hi ∧ s.size ≤ maxLen
set_option maxHeartbeats 400000 in
theorem valueAll_none (a : Option Addr) (cap : Nat) (w : World) (ht : Tab w) :
    Calls Tryd.prog 3 #[.slice a 0 cap] w fun e w' => e = .returned (.bool true) ∧ Below w.heap.size w w' := by
  have HB := hide (begun_is.out w ht)
  clear ht
  go_enter Tryd.func3, Tryd.ntmps3
  go_wp2_with (go_at_call 7; refine HB.out.mono ?_; rintro e wb ⟨rfl, hb⟩)
  go_loopw [3] (fun i wr => i = .int .i64 0 ∧ Hid (Below w.heap.size w wr)) (fun i _ => 0)
  case atStart => exact ⟨rfl, hide hb⟩
  case round =>
    obtain ⟨rfl, Hb⟩ := hrel
    go_wp2
    go_ret
    exact ⟨rfl, Hb.out⟩
set_option maxHeartbeats 1000000 in
theorem valueAll_some (b off len cap : Nat) (w : World) (hl : len ≤ maxLen) (HO : Hid (∀ i, i < len → OpAt w b off i)) (ht : Tab w) :
    Calls Tryd.prog 3 #[.slice (some ⟨b, off, none⟩) len cap] w fun e w' => e = .returned (.bool true) ∧ Below w.heap.size w w' := by
  unfold maxLen at hl
  have HB := hide (begun_is.out w ht)
  have HT := hide ht
  clear ht
  go_enter Tryd.func3, Tryd.ntmps3
  go_wp2_with (go_at_call 7; refine HB.out.mono ?_; rintro e wb ⟨rfl, hb⟩)
  go_loopw [3] (fun i wr => ∃ k : Nat, k ≤ len ∧ i = .int .i64 k ∧ Hid (Below w.heap.size w wr)) (fun i _ => len - (intOf i).toNat)
  case atStart => exact ⟨0, Nat.zero_le _, rfl, hide hb⟩
  case round =>
    obtain ⟨k, hk, rfl, Hb⟩ := hrel
    by_cases hlt : k < len
    · obtain ⟨o, a0, a1, a2, b0, b1, b2, s, e0, e1, e2, e3, e4, e5, e6, e7, l1, l2, ls⟩ := HO.out k hlt
      have hbs := block_lt_of_cell e0
      have c0 := (Hb.out.cell (p := ⟨b, off + k * 8, none⟩) hbs).trans e0
      have c1 := (Hb.out.cell (p := ⟨b, off + k * 8 + 1, none⟩) hbs).trans e1
      have c2 := (Hb.out.cell (p := ⟨b, off + k * 8 + 2, none⟩) hbs).trans e2
      have c3 := (Hb.out.cell (p := ⟨b, off + k * 8 + 3, none⟩) hbs).trans e3
      have c4 := (Hb.out.cell (p := ⟨b, off + k * 8 + 4, none⟩) hbs).trans e4
      have c5 := (Hb.out.cell (p := ⟨b, off + k * 8 + 5, none⟩) hbs).trans e5
      have c6 := (Hb.out.cell (p := ⟨b, off + k * 8 + 6, none⟩) hbs).trans e6
      have c7 := (Hb.out.cell (p := ⟨b, off + k * 8 + 7, none⟩) hbs).trans e7
      have HP := hide ((plays_any o a0 a1 a2 b0 b1 b2 s l1 l2 ls).out wr (tab_below HT.out Hb.out))
      clear e0 e1 e2 e3 e4 e5 e6 e7 l1 l2 ls
      go_wp2_with (go_at_call 8; refine HP.out.mono ?_; rintro e w1 ⟨rfl, hb1⟩)
      go_roundw
      case rel => exact ⟨k + 1, by omega, by go_num, hide (Hb.out.trans (hb1.mono Hb.out.size))⟩
      case measure => simp [intOf]; omega
    · go_wp2
      go_ret
      exact ⟨rfl, Hb.out⟩
end Go.Proofs.YtlgmcabnbmbocaaDoor
