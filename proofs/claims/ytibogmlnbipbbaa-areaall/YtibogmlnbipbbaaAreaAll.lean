/- The law AreaAll returns true for every script of calls, of any areas, places and numbers, in every order, and changes nothing that was there. -/
import Derived.Test.YtibogmlnbipbbaaPlays3
namespace Go.Proofs.Ytibogmlnbipbbaa
open Go.RowKit Go.Sort
set_option linter.unusedVariables false

/-- The fifteen cells of the script's call at place i. -/
def OpAt (w : World) (b off i : Nat) : Prop := ∃ k a0 a1 a2 a3 b0 b1 b2 b3 s0 s1 t0 t1 dr dc : Int, w.cell? ⟨b, off + i * 15, none⟩ = some (.int .i64 k) ∧ w.cell? ⟨b, off + i * 15 + 1, none⟩ = some (.int .i64 a0) ∧ w.cell? ⟨b, off + i * 15 + 2, none⟩ = some (.int .i64 a1) ∧ w.cell? ⟨b, off + i * 15 + 3, none⟩ = some (.int .i64 a2) ∧ w.cell? ⟨b, off + i * 15 + 4, none⟩ = some (.int .i64 a3) ∧ w.cell? ⟨b, off + i * 15 + 5, none⟩ = some (.int .i64 b0) ∧ w.cell? ⟨b, off + i * 15 + 6, none⟩ = some (.int .i64 b1) ∧ w.cell? ⟨b, off + i * 15 + 7, none⟩ = some (.int .i64 b2) ∧ w.cell? ⟨b, off + i * 15 + 8, none⟩ = some (.int .i64 b3) ∧ w.cell? ⟨b, off + i * 15 + 9, none⟩ = some (.int .i64 s0) ∧ w.cell? ⟨b, off + i * 15 + 10, none⟩ = some (.int .i64 s1) ∧ w.cell? ⟨b, off + i * 15 + 11, none⟩ = some (.int .i64 t0) ∧ w.cell? ⟨b, off + i * 15 + 12, none⟩ = some (.int .i64 t1) ∧ w.cell? ⟨b, off + i * 15 + 13, none⟩ = some (.int .i64 dr) ∧ w.cell? ⟨b, off + i * 15 + 14, none⟩ = some (.int .i64 dc)
set_option maxHeartbeats 400000 in
theorem areaAll_none (a : Option Addr) (cap : Nat) (w : World) :
    Calls Try.prog 3 #[.slice a 0 cap] w fun e w' => e = .returned (.bool true) ∧ Below w.heap.size w w' := by
  have HB := hide (begun_any w)
  go_enter Try.func3, Try.ntmps3
  go_wp2_with (go_at_call 8; refine HB.out.mono ?_; rintro e wb ⟨rfl, hb⟩)
  go_loopw [3] (fun i wr => i = .int .i64 0 ∧ Hid (Below w.heap.size w wr)) (fun i _ => 0)
  case atStart => exact ⟨rfl, hide hb⟩
  case round =>
    obtain ⟨rfl, Hb⟩ := hrel
    go_wp2
    go_ret
    exact ⟨rfl, Hb.out⟩
set_option maxHeartbeats 1000000 in
theorem areaAll_some (b off len cap : Nat) (w : World) (hl : len ≤ maxLen) (HO : Hid (∀ i, i < len → OpAt w b off i)) :
    Calls Try.prog 3 #[.slice (some ⟨b, off, none⟩) len cap] w fun e w' => e = .returned (.bool true) ∧ Below w.heap.size w w' := by
  unfold maxLen at hl
  have HB := hide (begun_any w)
  go_enter Try.func3, Try.ntmps3
  go_wp2_with (go_at_call 8; refine HB.out.mono ?_; rintro e wb ⟨rfl, hb⟩)
  go_loopw [3] (fun i wr => ∃ k : Nat, k ≤ len ∧ i = .int .i64 k ∧ Hid (Below w.heap.size w wr)) (fun i _ => len - (intOf i).toNat)
  case atStart => exact ⟨0, Nat.zero_le _, rfl, hide hb⟩
  case round =>
    obtain ⟨k, hk, rfl, Hb⟩ := hrel
    by_cases hlt : k < len
    · obtain ⟨o, a0, a1, a2, a3, b0, b1, b2, b3, s0, s1, t0, t1, dr, dc, e0, e1, e2, e3, e4, e5, e6, e7, e8, e9, e10, e11, e12, e13, e14⟩ := HO.out k hlt
      have hbs := block_lt_of_cell e0
      have c0 := (Hb.out.cell (p := ⟨b, off + k * 15, none⟩) hbs).trans e0
      have c1 := (Hb.out.cell (p := ⟨b, off + k * 15 + 1, none⟩) hbs).trans e1
      have c2 := (Hb.out.cell (p := ⟨b, off + k * 15 + 2, none⟩) hbs).trans e2
      have c3 := (Hb.out.cell (p := ⟨b, off + k * 15 + 3, none⟩) hbs).trans e3
      have c4 := (Hb.out.cell (p := ⟨b, off + k * 15 + 4, none⟩) hbs).trans e4
      have c5 := (Hb.out.cell (p := ⟨b, off + k * 15 + 5, none⟩) hbs).trans e5
      have c6 := (Hb.out.cell (p := ⟨b, off + k * 15 + 6, none⟩) hbs).trans e6
      have c7 := (Hb.out.cell (p := ⟨b, off + k * 15 + 7, none⟩) hbs).trans e7
      have c8 := (Hb.out.cell (p := ⟨b, off + k * 15 + 8, none⟩) hbs).trans e8
      have c9 := (Hb.out.cell (p := ⟨b, off + k * 15 + 9, none⟩) hbs).trans e9
      have c10 := (Hb.out.cell (p := ⟨b, off + k * 15 + 10, none⟩) hbs).trans e10
      have c11 := (Hb.out.cell (p := ⟨b, off + k * 15 + 11, none⟩) hbs).trans e11
      have c12 := (Hb.out.cell (p := ⟨b, off + k * 15 + 12, none⟩) hbs).trans e12
      have c13 := (Hb.out.cell (p := ⟨b, off + k * 15 + 13, none⟩) hbs).trans e13
      have c14 := (Hb.out.cell (p := ⟨b, off + k * 15 + 14, none⟩) hbs).trans e14
      have HP := hide (plays_any o a0 a1 a2 a3 b0 b1 b2 b3 s0 s1 t0 t1 dr dc wr)
      clear e0 e1 e2 e3 e4 e5 e6 e7 e8 e9 e10 e11 e12 e13 e14
      go_wp2_with (go_at_call 9; refine HP.out.mono ?_; rintro e w1 ⟨rfl, hb1⟩)
      go_roundw
      case rel => exact ⟨k + 1, by omega, by go_num, hide (Hb.out.trans (hb1.mono Hb.out.size))⟩
      case measure => simp [intOf]; omega
    · go_wp2
      go_ret
      exact ⟨rfl, Hb.out⟩
end Go.Proofs.Ytibogmlnbipbbaa
