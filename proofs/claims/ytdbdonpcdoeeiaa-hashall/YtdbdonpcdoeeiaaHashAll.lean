/- HashAll: what the law answers, for every list of values and every list of widths: true. Proved of the Go text. -/
import Derived.Test.YtdbdonpcdoeeiaaKit6b
namespace Go.Proofs.Ytdbdonpcdoeeiaa
open Go.RowKit Go.Sort
set_option linter.unusedVariables false

theorem sums_agree (k i : Int) (t : ByteArray) (n : Int) : ∃ x e : Int, CallIs 11 #[vV k i t, .int .i64 n] (.tuple #[.int .u64 x, .int .i64 e]) ∧ CallIs 12 #[vV k i t, .int .i64 n] (.tuple #[.int .u64 x, .int .i64 e]) := by
  by_cases h : n < 0 ∨ 64 < n
  · exact ⟨_, _, sum_no k i t n h, rsum_no k i t n h⟩
  · obtain ⟨m, rfl⟩ := Int.eq_ofNat_of_zero_le (show 0 ≤ n by omega)
    exact ⟨_, _, sum_yes k i t m (by omega), rsum_yes k i t m (by omega)⟩
set_option maxRecDepth 100000 in
set_option maxHeartbeats 8000000 in
theorem hashAll_walk {W : World} (a : Option Addr) (len cap : Nat) (hV : ValsIn W a len) (a' : Option Addr) (len' cap' : Nat) (hI : IntsIn W a' len') :
    Calls Try.prog 3 #[.slice a len cap, .slice a' len' cap'] W fun e w' => e = .returned (.bool true) ∧ Below W.heap.size W w' := by
  have H1 := begun_is
  replace hV := hide hV
  replace hI := hide hI
  have hl : Hid (len ≤ maxLen) := by rcases hV.out with h | ⟨_, _, _, h, _⟩; rw [h]; exact hide (Nat.zero_le _); exact hide h
  have hl' : Hid (len' ≤ maxLen) := by rcases hI.out with h | ⟨_, _, _, h, _⟩; rw [h]; exact hide (Nat.zero_le _); exact hide h
  go_enter Try.func3, Try.ntmps3
  go_wp2_with fail
  refine (H1.out _).mono ?_
  rintro e w1 ⟨rfl, hb1⟩
  replace hb1 := hide hb1
  go_wp2_with fail
  go_loopw [5, 6] (fun s n wr => ∃ (wk : Int) (c : Nat), c ≤ 2 ∧ s = .int .i64 wk ∧ n = .int .i64 c ∧ Hid (Below W.heap.size W wr)) (fun _ n _ => 2 - (intOf n).toNat)
  case atStart => exact ⟨0, 0, by omega, rfl, rfl, hb1⟩
  case round =>
    obtain ⟨wk0, c, hc, rfl, rfl, Hb0⟩ := hrel
    by_cases hc2 : c < 2
    · have p0 : (c : Int) < 2 := by omega
      go_wp2_with fail
      go_loopw [5, 7] (fun s n wr => ∃ (wk : Int) (j : Nat), j ≤ len ∧ s = .int .i64 wk ∧ n = .int .i64 j ∧ Hid (Below W.heap.size W wr)) (fun _ n _ => len - (intOf n).toNat)
      case atStart => exact ⟨wk0, 0, Nat.zero_le _, rfl, rfl, Hb0⟩
      case round =>
        obtain ⟨wk, j, hj, rfl, rfl, Hb⟩ := hrel
        have hlo := hl.out
        unfold maxLen at hlo
        by_cases hlt : j < len
        · have p1 : (j : Int) < (len : Int) := by omega
          by_cases hw : wk < 16777216
          · obtain ⟨b, off, rfl, _, ho⟩ : ∃ b off, a = some ⟨b, off, none⟩ ∧ len ≤ maxLen ∧ ∀ i, i < len → AnyAt W b off i := by rcases hV.out with h | h; omega; exact h
            obtain ⟨k, i, t, hA0, _⟩ := ho j hlt
            have hA := hide (hA0.keep Hb.out)
            have wj : Hid (wrap64 ((j : Int) + 1) = (j : Int) + 1) := hide (IntWalk.wrap64_in _ ⟨by omega, by omega⟩)
            clear hA0 ho hlo
            have HA := bytes_any k i t
            have HB := rbytes_any k i t
            have A0 := hA.out.c0
            have A1 := hA.out.c1
            have A2 := hA.out.c2
            go_wp2_with fail
            go_region_with (first
              | (go_at_call 9; with_reducible refine (HA.out _).mono ?_; rintro e wa ⟨va, rfl, hOa, hba⟩; have z0 := (hA.out.drew.keep hba).c0; have z1 := (hA.out.drew.keep hba).c1; have z2 := (hA.out.drew.keep hba).c2)
              | (go_at_call 10; with_reducible refine (HB.out _).mono ?_; rintro e wb ⟨vb, rfl, hOb, hbb⟩; have z0 := (hA.out.drew.keep hbb).c0; have z1 := (hA.out.drew.keep hbb).c1; have z2 := (hA.out.drew.keep hbb).c2)
              | (go_at_call 9; with_reducible refine (HA.out _).mono ?_; rintro e wa ⟨va, rfl, hOa, hba⟩)
              | (go_at_call 10; with_reducible refine (HB.out _).mono ?_; rintro e wb ⟨vb, rfl, hOb, hbb⟩)
              | (go_at_call 8; refine (eq_any (hOa.keep hbb) hOb).mono ?_; rintro e w6 ⟨rfl, rfl⟩; have G := hide (next2 hba hbb))
              | (go_at_call 8; refine (eq_any hOa (hOb.keep hba)).mono ?_; rintro e w6 ⟨rfl, rfl⟩; have G := hide (next2 hbb hba)))
            all_goals (
              clear A0 A1 A2 hOa hOb hba hbb
              replace hA := hide (hA.out.keep G.out)
              replace Hb := hide (next Hb.out G.out)
              clear G
              go_wp2_with fail
              go_loopw [5, 8] (fun s n wr => ∃ (wk : Int) (m : Nat), m ≤ len' ∧ s = .int .i64 wk ∧ n = .int .i64 m ∧ Hid (ValAt wr b off j k i t) ∧ Hid (Below W.heap.size W wr)) (fun _ n _ => len' - (intOf n).toNat)
              case atStart => exact ⟨_, 0, Nat.zero_le _, rfl, rfl, hA, Hb⟩
              case round =>
                clear hA Hb
                obtain ⟨wk2, m, hm, rfl, rfl, hA, Hb⟩ := hrel
                have hlo' := hl'.out
                unfold maxLen at hlo'
                by_cases hmt : m < len'
                · have p2 : (m : Int) < (len' : Int) := by omega
                  by_cases hw2 : wk2 < 16777216
                  · obtain ⟨b2, off2, rfl, _, ho'⟩ : ∃ b off, a' = some ⟨b, off, none⟩ ∧ len' ≤ maxLen ∧ ∀ i, i < len' → IntAt W b off i := by rcases hI.out with h | h; omega; exact h
                    obtain ⟨n, hN0⟩ := ho' m hmt
                    have hN := hide (keep1 Hb.out hN0)
                    clear hN0 ho'
                    obtain ⟨x, er, HS, HR⟩ := sums_agree k i t n
                    have A0 := hA.out.c0
                    have A1 := hA.out.c1
                    have A2 := hA.out.c2
                    have N0 := hN.out
                    have q0 := cell_regrown A0
                    have q1 := cell_regrown A1
                    have q2 := cell_regrown A2
                    have q3 := cell_regrown N0
                    have kk := fun d' os => Calls.regrown_of (HS.out (grow (redrawn wr d') os))
                    go_wp2_with fail
                    refine wp_region_quiet_below (by kernel_rfl) (by kernel_rfl) ?_
                    repeat (go_big_quiet_step (first | (with_reducible exact kk _ _)))
                    refine wpQuiet_nil ?_
                    intro w7 hw7
                    have hb7 : Below wr.heap.size wr w7 := by obtain ⟨⟨dq, osq⟩, hq⟩ := hw7; rw [hq]; exact below_regrown _ dq osq
                    clear hw7 q0 q1 q2 q3 kk A0 A1 A2 N0
                    replace hA := hide (hA.out.keep hb7)
                    replace hN := hide (keep1 hb7 hN.out)
                    replace Hb := hide (next Hb.out hb7)
                    clear hb7
                    have A0 := hA.out.c0
                    have A1 := hA.out.c1
                    have A2 := hA.out.c2
                    have N0 := hN.out
                    have q0 := cell_regrown A0
                    have q1 := cell_regrown A1
                    have q2 := cell_regrown A2
                    have q3 := cell_regrown N0
                    have kk := fun d' os => Calls.regrown_of (HR.out (grow (redrawn w7 d') os))
                    go_wp2_with fail
                    refine wp_region_quiet_below (by kernel_rfl) (by kernel_rfl) ?_
                    repeat (go_big_quiet_step (first | (with_reducible exact kk _ _)))
                    refine wpQuiet_nil ?_
                    intro w8 hw8
                    have hb8 : Below w7.heap.size w7 w8 := by obtain ⟨⟨dq, osq⟩, hq⟩ := hw8; rw [hq]; exact below_regrown _ dq osq
                    clear hw8 q0 q1 q2 q3 kk A0 A1 A2 N0
                    replace hA := hide (hA.out.keep hb8)
                    replace hN := hide (keep1 hb8 hN.out)
                    replace Hb := hide (next Hb.out hb8)
                    clear hb8
                    go_wp2_with fail
                    go_roundw
                    case rel => exact ⟨_, m + 1, by omega, rfl, by go_num, hA, Hb⟩
                    case measure => simp [intOf]; omega
                  · go_wp2_with fail
                    go_roundw
                    case rel => exact ⟨_, j + 1, by omega, rfl, by rw [wj.out]; rfl, Hb⟩
                    case measure => rw [wj.out]; simp [intOf]; omega
                · have p2 : ¬ (m : Int) < (len' : Int) := by omega
                  go_wp2_with fail
                  go_roundw
                  case rel => exact ⟨_, j + 1, by omega, rfl, by rw [wj.out]; rfl, Hb⟩
                  case measure => rw [wj.out]; simp [intOf]; omega)
          · go_wp2_with fail
            go_roundw
            case rel => exact ⟨_, c + 1, by omega, rfl, by go_num, Hb⟩
            case measure => simp [intOf]; omega
        · have p1 : ¬ (j : Int) < (len : Int) := by omega
          go_wp2_with fail
          go_roundw
          case rel => exact ⟨_, c + 1, by omega, rfl, by go_num, Hb⟩
          case measure => simp [intOf]; omega
    · have p0 : ¬ (c : Int) < 2 := by omega
      go_wp2_with fail
      go_ret
      exact ⟨rfl, Hb0.out⟩
end Go.Proofs.Ytdbdonpcdoeeiaa
