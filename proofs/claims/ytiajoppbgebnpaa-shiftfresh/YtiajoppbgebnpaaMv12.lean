/- package shift: where a row or column goes; what becomes of one reference: the three function values. -/
import Derived.Test.YtiajoppbgebnpaaShJ
namespace Go.Proofs.Ytiajoppbgebnpaa
open Go.RowKit Go.Sort
set_option linter.unusedVariables false

theorem ite_minI (x y : Int) : (if x < y then x else y) = min x y := by split <;> omega
theorem ite_min2 (x y : Int) : (if y < x then y else x) = min x y := by split <;> omega
theorem ite_max2 (x y : Int) : (if y < x then x else y) = max x y := by split <;> omega
theorem stepped_any (line d : Int) (h1 : -140000 ≤ line) (h2 : line ≤ 140000) (w : World) : Calls Try.prog 29 #[.int .i64 line, .int .i64 d] w fun e w' => e = .returned (.int .i64 (stp line d)) ∧ w' = w := by
  unfold stp
  go_enter Try.func29, Try.ntmps29
  go_wp2_with fail
  go_ret
  exact ⟨rfl, rfl⟩
theorem lineNow_any (line partner a n : Int) (h1 : 0 ≤ line) (h2 : line < 65536) (a1 : 0 ≤ a) (a2 : a < 65536) (w : World) : Calls Try.prog 32 #[.int .i64 line, .int .i64 partner, .int .i64 a, .int .i64 n] w fun e w' => e = .returned (.int .i64 (lnow line partner a n)) ∧ w' = w := by
  have HS := hide (stepped_any line n (by omega) (by omega))
  unfold lnow
  by_cases c1 : line < a
  · rw [if_pos c1]
    go_enter Try.func32, Try.ntmps32
    go_wp2_with fail
    go_ret
    exact ⟨rfl, rfl⟩
  · rw [if_neg c1]
    by_cases c2 : 0 ≤ n
    · rw [if_pos c2]
      go_enter Try.func32, Try.ntmps32
      go_wp2_with (first
        | (go_at_call 29; refine (HS.out _).mono ?_; rintro e w1 ⟨rfl, rfl⟩))
      go_ret
      exact ⟨rfl, rfl⟩
    · rw [if_neg c2]
      by_cases c4 : a - max n (-65536) ≤ line
      · rw [if_pos c4]
        go_enter Try.func32, Try.ntmps32
        go_wp2_with (first
          | (go_at_call 29; refine (HS.out _).mono ?_; rintro e w1 ⟨rfl, rfl⟩))
        go_ret
        exact ⟨rfl, rfl⟩
      · rw [if_neg c4]
        by_cases c5 : partner < a
        · rw [if_pos c5]
          go_enter Try.func32, Try.ntmps32
          go_wp2_with fail
          go_ret
          exact ⟨rfl, rfl⟩
        · rw [if_neg c5]
          by_cases c6 : a - max n (-65536) ≤ partner
          · rw [if_pos c6]
            go_enter Try.func32, Try.ntmps32
            go_wp2_with fail
            go_ret
            exact ⟨rfl, rfl⟩
          · rw [if_neg c6]
            go_enter Try.func32, Try.ntmps32
            go_wp2_with fail
            go_ret
            exact ⟨rfl, rfl⟩
theorem grid_any (r : Rf) (w : World) : Calls Try.prog 64 #[rfV r] w fun e w' => e = .returned (.bool (mayB r.row r.col)) ∧ Below w.heap.size w w' := by
  have HM := hide (spotMay_any r.row r.col)
  go_enter Try.func64, Try.ntmps64
  go_wp2_with (first
    | (go_at_call 42; refine (HM.out _).mono ?_; rintro e w1 ⟨rfl, hb⟩; have b1 : Hid (Below w.heap.size w w1) := hide (next (by go_grown) hb); clear hb))
  go_ret
  exact ⟨rfl, b1.out⟩
/-- What becomes of a reference, as the function value tells it, in every world that has grown out of w0. -/
structure MvIs (w0 : World) (f : Mv) (F : Nat) (caps : Array Value) : Prop where
  ent : ∀ args w, (callFunc F args).run Try.prog w = .ok (.enter F args) w
  call : ∀ r p w, Below w0.heap.size w0 w → mayB r.row r.col = true → mayB p.row p.col = true → Calls Try.prog F (#[rfV r, rfV p] ++ caps) w fun e w' => e = .returned (rfV (f r p)) ∧ Below w.heap.size w w'
theorem MvIs.step {w0 w1 : World} {f : Mv} {F : Nat} {caps : Array Value} (h : MvIs w0 f F caps) (hb : Below w0.heap.size w0 w1) : MvIs w1 f F caps :=
  ⟨h.ent, fun r p w hw hr hp => h.call r p w (next hb hw) hr hp⟩
theorem Blk.i64 {w : World} {B : Nat} {v : Value} {t : TypeId} (h : Blk w B #[v] t) (o o' o'' : Obj) : (((w.alloc o).alloc o').alloc o'').cell? ⟨B, 0, none⟩ = some v := (((h.alloc o).alloc o').alloc o'').one
set_option maxHeartbeats 1000000 in
theorem paste_mv {w0 : World} {B1 B2 : Nat} {dr dc : Int} (h1 : Blk w0 B1 #[.int .i64 dr] 2) (h2 : Blk w0 B2 #[.int .i64 dc] 2) :
    MvIs w0 (pasR dr dc) 28 #[.pointer (some ⟨B1, 0, none⟩), .pointer (some ⟨B2, 0, none⟩)] where
  ent := enters Try.func28 (by kernel_rfl) (by kernel_rfl)
  call := by
    intro r p w hw hr hp
    have hr := mayB_iff.1 hr
    have c1 := (h1.keep hw).i64
    have c2 := (h2.keep hw).i64
    have S1 := hide (stepped_any r.row dr (by omega) (by omega))
    have S2 := hide (stepped_any r.col dc (by omega) (by omega))
    obtain ⟨row, col, pr, pc⟩ := r
    obtain ⟨prow, pcol, ppr, ppc⟩ := p
    dsimp only at S1 S2
    clear hr hp h1 h2 hw
    show Calls _ _ #[.agg #[.int .i64 row, .int .i64 col, .bool pr, .bool pc], .agg #[.int .i64 prow, .int .i64 pcol, .bool ppr, .bool ppc], .pointer (some ⟨B1, 0, none⟩), .pointer (some ⟨B2, 0, none⟩)] w _
    cases pr <;> cases pc
    all_goals
      dsimp only [pasR, rfV]
      go_enter Try.func28, Try.ntmps28
      go_wp2_with (first
        | (go_at_call 29; with_reducible refine (S1.out _).mono ?_; rintro e w1 ⟨rfl, rfl⟩)
        | (go_at_call 29; with_reducible refine (S2.out _).mono ?_; rintro e w1 ⟨rfl, rfl⟩))
      refine bodyPost_ret (by simp [results, Try.results28, go_sem]; try rfl) rfl ?_
      exact ⟨rfl, by go_grown⟩
set_option maxHeartbeats 1000000 in
theorem rows_mv {w0 : World} {B1 B2 : Nat} {a n : Int} (h1 : Blk w0 B1 #[.int .i64 a] 2) (h2 : Blk w0 B2 #[.int .i64 n] 2) (ha : 0 ≤ a) (ha' : a < 65536) :
    MvIs w0 (rowR a n) 31 #[.pointer (some ⟨B1, 0, none⟩), .pointer (some ⟨B2, 0, none⟩)] where
  ent := enters Try.func31 (by kernel_rfl) (by kernel_rfl)
  call := by
    intro r p w hw hr hp
    have hr := mayB_iff.1 hr
    have c1 := (h1.keep hw).i64
    have c2 := (h2.keep hw).i64
    have S1 := hide (lineNow_any r.row p.row a n (by omega) (by omega) ha ha')
    obtain ⟨row, col, pr, pc⟩ := r
    obtain ⟨prow, pcol, ppr, ppc⟩ := p
    dsimp only at S1
    clear hr hp h1 h2 hw ha ha'
    show Calls _ _ #[.agg #[.int .i64 row, .int .i64 col, .bool pr, .bool pc], .agg #[.int .i64 prow, .int .i64 pcol, .bool ppr, .bool ppc], .pointer (some ⟨B1, 0, none⟩), .pointer (some ⟨B2, 0, none⟩)] w _
    dsimp only [rowR, rfV]
    go_enter Try.func31, Try.ntmps31
    go_wp2_with (first
      | (go_at_call 32; refine (S1.out _).mono ?_; rintro e w1 ⟨rfl, rfl⟩))
    refine bodyPost_ret (by simp [results, Try.results31, go_sem]; try rfl) rfl ?_
    exact ⟨rfl, by go_grown⟩
set_option maxHeartbeats 1000000 in
theorem cols_mv {w0 : World} {B1 B2 : Nat} {a n : Int} (h1 : Blk w0 B1 #[.int .i64 a] 2) (h2 : Blk w0 B2 #[.int .i64 n] 2) (ha : 0 ≤ a) (ha' : a < 702) :
    MvIs w0 (colR a n) 33 #[.pointer (some ⟨B1, 0, none⟩), .pointer (some ⟨B2, 0, none⟩)] where
  ent := enters Try.func33 (by kernel_rfl) (by kernel_rfl)
  call := by
    intro r p w hw hr hp
    have hr := mayB_iff.1 hr
    have c1 := (h1.keep hw).i64
    have c2 := (h2.keep hw).i64
    have S1 := hide (lineNow_any r.col p.col a n (by omega) (by omega) ha (by omega))
    obtain ⟨row, col, pr, pc⟩ := r
    obtain ⟨prow, pcol, ppr, ppc⟩ := p
    dsimp only at S1
    clear hr hp h1 h2 hw ha ha'
    show Calls _ _ #[.agg #[.int .i64 row, .int .i64 col, .bool pr, .bool pc], .agg #[.int .i64 prow, .int .i64 pcol, .bool ppr, .bool ppc], .pointer (some ⟨B1, 0, none⟩), .pointer (some ⟨B2, 0, none⟩)] w _
    dsimp only [colR, rfV]
    go_enter Try.func33, Try.ntmps33
    go_wp2_with (first
      | (go_at_call 32; refine (S1.out _).mono ?_; rintro e w1 ⟨rfl, rfl⟩))
    refine bodyPost_ret (by simp [results, Try.results33, go_sem]; try rfl) rfl ?_
    exact ⟨rfl, by go_grown⟩
end Go.Proofs.Ytiajoppbgebnpaa
