/- HashApart: what the law answers, for every list of values: true. Proved of the Go text. -/
import Derived.Test.YtdbdonpcdoeeiaaKit6b
import Derived.BigRegion
import Derived.RegionTactic
namespace Go.Proofs.Ytdbdonpcdoeeiaa
open Go.RowKit Go.Sort
set_option linter.unusedVariables false

set_option maxHeartbeats 400000 in
theorem hashApart_none (a : Option Addr) (cap : Nat) (W : World) :
    Calls Try.prog 5 #[.slice a 0 cap] W fun e w' => e = .returned (.bool true) ∧ Below W.heap.size W w' := by
  have H1 := begun_is
  go_enter Try.func5, Try.ntmps5
  go_wp2_with fail
  refine (H1.out _).mono ?_
  rintro e w1 ⟨rfl, hb1⟩
  replace hb1 := hide hb1
  go_wp2_with fail
  go_loopw [3] (fun i wr => i = .int .i64 0 ∧ Hid (Below W.heap.size W wr)) (fun i _ => 0)
  case atStart => exact ⟨rfl, hb1⟩
  case round =>
    obtain ⟨rfl, Hb⟩ := hrel
    go_wp2_with fail
    go_ret
    exact ⟨rfl, Hb.out⟩
set_option maxHeartbeats 16000000 in
theorem hashApart_some (b off len cap : Nat) (W : World) (hl : len ≤ maxLen) (HO : Hid (∀ i, i < len → AnyAt W b off i)) :
    Calls Try.prog 5 #[.slice (some ⟨b, off, none⟩) len cap] W fun e w' => e = .returned (.bool true) ∧ Below W.heap.size W w' := by
  unfold maxLen at hl
  have H1 := begun_is
  go_enter Try.func5, Try.ntmps5
  go_wp2_with fail
  refine (H1.out _).mono ?_
  rintro e w1 ⟨rfl, hb1⟩
  replace hb1 := hide hb1
  go_wp2_with fail
  go_loopw [3] (fun i wr => ∃ n : Nat, n ≤ len ∧ i = .int .i64 n ∧ Hid (Below W.heap.size W wr)) (fun i _ => len - (intOf i).toNat)
  case atStart => exact ⟨0, Nat.zero_le _, rfl, hb1⟩
  case round =>
    obtain ⟨n, hn, rfl, Hb⟩ := hrel
    by_cases hlt : n < len ∧ n < 60
    · obtain ⟨hlt, h60⟩ := hlt
      have q1 : (n : Int) < (len : Int) := by omega
      have q2 : (n : Int) < 60 := by omega
      go_wp2_with fail
      go_loopw [4] (fun i wr => ∃ m : Nat, m ≤ n ∧ i = .int .i64 m ∧ Hid (Below W.heap.size W wr)) (fun i _ => n - (intOf i).toNat)
      case atStart => exact ⟨0, Nat.zero_le _, rfl, Hb⟩
      case round =>
        obtain ⟨m, hm, rfl, Hc⟩ := hrel
        by_cases hmn : m < n
        · have q3 : (m : Int) < (n : Int) := by omega
          have q4 : (m : Int) < (len : Int) := by omega
          obtain ⟨k, i, t, hA, i1⟩ := HO.out n hlt
          obtain ⟨k', i', t', hA', i1'⟩ := HO.out m (by omega)
          have hcase := hide (apart_case (k := k) (k' := k') (t := t) (t' := t') i1 i1')
          have HA := bytes_any k i t
          have HB := bytes_any k' i' t'
          clear i1 i1'
          have A0 := (hA.keep Hc.out).1
          have A1 := (hA.keep Hc.out).2.1
          have A2 := (hA.keep Hc.out).2.2
          have B0 := (hA'.keep Hc.out).1
          have B1 := (hA'.keep Hc.out).2.1
          have B2 := (hA'.keep Hc.out).2.2
          have A0a := fun o => ((hA.keep Hc.out).alloc o).1
          have A1a := fun o => ((hA.keep Hc.out).alloc o).2.1
          have A2a := fun o => ((hA.keep Hc.out).alloc o).2.2
          have B0a := fun o => ((hA'.keep Hc.out).alloc o).1
          have B1a := fun o => ((hA'.keep Hc.out).alloc o).2.1
          have B2a := fun o => ((hA'.keep Hc.out).alloc o).2.2
          have A0b := fun o o' => (((hA.keep Hc.out).alloc o).alloc o').1
          have A1b := fun o o' => (((hA.keep Hc.out).alloc o).alloc o').2.1
          have A2b := fun o o' => (((hA.keep Hc.out).alloc o).alloc o').2.2
          have B0b := fun o o' => (((hA'.keep Hc.out).alloc o).alloc o').1
          have B1b := fun o o' => (((hA'.keep Hc.out).alloc o).alloc o').2.1
          have B2b := fun o o' => (((hA'.keep Hc.out).alloc o).alloc o').2.2
          clear hA hA'
          go_wp2_with fail
          go_region
          all_goals go_wp2_with fail
          all_goals clear A0 A1 A2 B0 B1 B2 A0a A1a A2a B0a B1a B2a A0b A1b A2b B0b B1b B2b
          · skip
            have F1 := hide ((O3.new wr (.int .i64 k) (.int .i64 i) (.string t) 26).alloc (vO k' i' t'))
            have F2 := hide (O3.new (wr.alloc (vO k i t)) (.int .i64 k') (.int .i64 i') (.string t') 26)
            have F3 := hide (step (step Hc.out (vO k i t)) (vO k' i' t')).drew
            rw [World.size_alloc] at F2
            obtain ⟨w5, hw5⟩ : ∃ w5, w5 = ((wr.alloc (vO k i t)).alloc (vO k' i' t')).drew := ⟨_, rfl⟩
            replace F1 : Hid (O3 w5 wr.heap.size (.int .i64 k) (.int .i64 i) (.string t)) := by rw [hw5]; exact hide F1.out.drew
            replace F2 : Hid (O3 w5 (wr.heap.size + 1) (.int .i64 k') (.int .i64 i') (.string t')) := by rw [hw5]; exact hide F2.out.drew
            rw [← hw5] at F3 ⊢
            clear hw5
            have x0 := F1.out.c0
            have x1 := F1.out.c1
            have x2 := F1.out.c2
            have y0 := F2.out.c0
            have y1 := F2.out.c1
            have y2 := F2.out.c2
            go_region_with (first
              | (go_at_call 9; with_reducible refine (HA.out _).mono ?_; rintro e wa ⟨va, rfl, hOa, hba⟩; have z0 := (F2.out.drew.keep hba).c0; have z1 := (F2.out.drew.keep hba).c1; have z2 := (F2.out.drew.keep hba).c2)
              | (go_at_call 9; with_reducible refine (HB.out _).mono ?_; rintro e wb ⟨vb, rfl, hOb, hbb⟩; have z0 := (F1.out.drew.keep hbb).c0; have z1 := (F1.out.drew.keep hbb).c1; have z2 := (F1.out.drew.keep hbb).c2)
              | (go_at_call 9; with_reducible refine (HA.out _).mono ?_; rintro e wa ⟨va, rfl, hOa, hba⟩)
              | (go_at_call 9; with_reducible refine (HB.out _).mono ?_; rintro e wb ⟨vb, rfl, hOb, hbb⟩)
              | (go_at_call 8; refine (eq_any (hOa.keep hbb) hOb).mono ?_; rintro e w6 ⟨rfl, rfl⟩; have G := hide (next2 hba hbb))
              | (go_at_call 8; refine (eq_any hOa (hOb.keep hba)).mono ?_; rintro e w6 ⟨rfl, rfl⟩; have G := hide (next2 hbb hba)))
            all_goals (
              have BB := hide (next F3.out G.out)
              have X0 := (F1.out.keep G.out).c0
              have X1 := (F1.out.keep G.out).c1
              have X2 := (F1.out.keep G.out).c2
              have Y0 := (F2.out.keep G.out).c0
              have Y1 := (F2.out.keep G.out).c1
              have Y2 := (F2.out.keep G.out).c2
              clear x0 x1 x2 y0 y1 y2 hOa hOb hba hbb
              rcases hcase.out with ⟨rfl, rfl, rfl⟩ | ⟨hE, hD⟩ | ⟨hE, hD, hg⟩ | ⟨hE, hD, hg, hg'⟩
              · have hE : (bsOf k i t == bsOf k i t) = true := beq_self_eq_true _
                rw [hE]
                go_wp2_with fail
                go_roundw
                case rel => exact ⟨m + 1, by omega, by go_num, BB⟩
                case measure => simp [intOf]; omega
              · rw [hE]
                rcases hD with hD | ⟨rfl, hD⟩ | ⟨rfl, rfl, hD⟩
                · go_wp2_with fail
                  go_roundw
                  case rel => exact ⟨m + 1, by omega, by go_num, BB⟩
                  case measure => simp [intOf]; omega
                · go_wp2_with fail
                  go_roundw
                  case rel => exact ⟨m + 1, by omega, by go_num, BB⟩
                  case measure => simp [intOf]; omega
                · go_wp2_with fail
                  go_roundw
                  case rel => exact ⟨m + 1, by omega, by go_num, BB⟩
                  case measure => simp [intOf]; omega
              · rw [hE]
                have M := lmay_no hg
                clear hg
                rcases hD with hD | ⟨rfl, hD⟩ | ⟨rfl, rfl, hD⟩
                · go_wp2_with fail
                  refine (M.out _).mono ?_
                  rintro e w7 ⟨rfl, hb7⟩
                  have B7 := hide (next BB.out hb7)
                  clear hb7
                  go_wp2_with fail
                  go_roundw
                  case rel => exact ⟨m + 1, by omega, by go_num, B7⟩
                  case measure => simp [intOf]; omega
                · go_wp2_with fail
                  refine (M.out _).mono ?_
                  rintro e w7 ⟨rfl, hb7⟩
                  have B7 := hide (next BB.out hb7)
                  clear hb7
                  go_wp2_with fail
                  go_roundw
                  case rel => exact ⟨m + 1, by omega, by go_num, B7⟩
                  case measure => simp [intOf]; omega
                · go_wp2_with fail
                  refine (M.out _).mono ?_
                  rintro e w7 ⟨rfl, hb7⟩
                  have B7 := hide (next BB.out hb7)
                  clear hb7
                  go_wp2_with fail
                  go_roundw
                  case rel => exact ⟨m + 1, by omega, by go_num, B7⟩
                  case measure => simp [intOf]; omega
              · rw [hE]
                have M := lmay_yes hg
                have M' := lmay_no hg'
                clear hg hg'
                rcases hD with hD | ⟨rfl, hD⟩ | ⟨rfl, rfl, hD⟩
                · go_wp2_with fail
                  refine (M.out _).mono ?_
                  rintro e w7 ⟨rfl, hb7⟩
                  have B7 := hide (next BB.out hb7)
                  have G7 := hide (next G.out hb7)
                  have Z0 := (F2.out.keep G7.out).c0
                  have Z1 := (F2.out.keep G7.out).c1
                  have Z2 := (F2.out.keep G7.out).c2
                  clear hb7 X0 X1 X2 Y0 Y1 Y2
                  go_wp2_with fail
                  refine (M'.out _).mono ?_
                  rintro e w8 ⟨rfl, hb8⟩
                  have B8 := hide (next B7.out hb8)
                  clear hb8 Z0 Z1 Z2
                  go_wp2_with fail
                  go_roundw
                  case rel => exact ⟨m + 1, by omega, by go_num, B8⟩
                  case measure => simp [intOf]; omega
                · go_wp2_with fail
                  refine (M.out _).mono ?_
                  rintro e w7 ⟨rfl, hb7⟩
                  have B7 := hide (next BB.out hb7)
                  have G7 := hide (next G.out hb7)
                  have Z0 := (F2.out.keep G7.out).c0
                  have Z1 := (F2.out.keep G7.out).c1
                  have Z2 := (F2.out.keep G7.out).c2
                  clear hb7 X0 X1 X2 Y0 Y1 Y2
                  go_wp2_with fail
                  refine (M'.out _).mono ?_
                  rintro e w8 ⟨rfl, hb8⟩
                  have B8 := hide (next B7.out hb8)
                  clear hb8 Z0 Z1 Z2
                  go_wp2_with fail
                  go_roundw
                  case rel => exact ⟨m + 1, by omega, by go_num, B8⟩
                  case measure => simp [intOf]; omega
                · go_wp2_with fail
                  refine (M.out _).mono ?_
                  rintro e w7 ⟨rfl, hb7⟩
                  have B7 := hide (next BB.out hb7)
                  have G7 := hide (next G.out hb7)
                  have Z0 := (F2.out.keep G7.out).c0
                  have Z1 := (F2.out.keep G7.out).c1
                  have Z2 := (F2.out.keep G7.out).c2
                  clear hb7 X0 X1 X2 Y0 Y1 Y2
                  go_wp2_with fail
                  refine (M'.out _).mono ?_
                  rintro e w8 ⟨rfl, hb8⟩
                  have B8 := hide (next B7.out hb8)
                  clear hb8 Z0 Z1 Z2
                  go_wp2_with fail
                  go_roundw
                  case rel => exact ⟨m + 1, by omega, by go_num, B8⟩
                  case measure => simp [intOf]; omega)
          · skip
            have F2 := hide ((O3.new wr (.int .i64 k') (.int .i64 i') (.string t') 26).alloc (vO k i t))
            have F1 := hide (O3.new (wr.alloc (vO k' i' t')) (.int .i64 k) (.int .i64 i) (.string t) 26)
            have F3 := hide (step (step Hc.out (vO k' i' t')) (vO k i t)).drew
            rw [World.size_alloc] at F1
            obtain ⟨w5, hw5⟩ : ∃ w5, w5 = ((wr.alloc (vO k' i' t')).alloc (vO k i t)).drew := ⟨_, rfl⟩
            replace F1 : Hid (O3 w5 (wr.heap.size + 1) (.int .i64 k) (.int .i64 i) (.string t)) := by rw [hw5]; exact hide F1.out.drew
            replace F2 : Hid (O3 w5 wr.heap.size (.int .i64 k') (.int .i64 i') (.string t')) := by rw [hw5]; exact hide F2.out.drew
            rw [← hw5] at F3 ⊢
            clear hw5
            have x0 := F1.out.c0
            have x1 := F1.out.c1
            have x2 := F1.out.c2
            have y0 := F2.out.c0
            have y1 := F2.out.c1
            have y2 := F2.out.c2
            go_region_with (first
              | (go_at_call 9; with_reducible refine (HA.out _).mono ?_; rintro e wa ⟨va, rfl, hOa, hba⟩; have z0 := (F2.out.drew.keep hba).c0; have z1 := (F2.out.drew.keep hba).c1; have z2 := (F2.out.drew.keep hba).c2)
              | (go_at_call 9; with_reducible refine (HB.out _).mono ?_; rintro e wb ⟨vb, rfl, hOb, hbb⟩; have z0 := (F1.out.drew.keep hbb).c0; have z1 := (F1.out.drew.keep hbb).c1; have z2 := (F1.out.drew.keep hbb).c2)
              | (go_at_call 9; with_reducible refine (HA.out _).mono ?_; rintro e wa ⟨va, rfl, hOa, hba⟩)
              | (go_at_call 9; with_reducible refine (HB.out _).mono ?_; rintro e wb ⟨vb, rfl, hOb, hbb⟩)
              | (go_at_call 8; refine (eq_any (hOa.keep hbb) hOb).mono ?_; rintro e w6 ⟨rfl, rfl⟩; have G := hide (next2 hba hbb))
              | (go_at_call 8; refine (eq_any hOa (hOb.keep hba)).mono ?_; rintro e w6 ⟨rfl, rfl⟩; have G := hide (next2 hbb hba)))
            all_goals (
              have BB := hide (next F3.out G.out)
              have X0 := (F1.out.keep G.out).c0
              have X1 := (F1.out.keep G.out).c1
              have X2 := (F1.out.keep G.out).c2
              have Y0 := (F2.out.keep G.out).c0
              have Y1 := (F2.out.keep G.out).c1
              have Y2 := (F2.out.keep G.out).c2
              clear x0 x1 x2 y0 y1 y2 hOa hOb hba hbb
              rcases hcase.out with ⟨rfl, rfl, rfl⟩ | ⟨hE, hD⟩ | ⟨hE, hD, hg⟩ | ⟨hE, hD, hg, hg'⟩
              · have hE : (bsOf k i t == bsOf k i t) = true := beq_self_eq_true _
                rw [hE]
                go_wp2_with fail
                go_roundw
                case rel => exact ⟨m + 1, by omega, by go_num, BB⟩
                case measure => simp [intOf]; omega
              · rw [hE]
                rcases hD with hD | ⟨rfl, hD⟩ | ⟨rfl, rfl, hD⟩
                · go_wp2_with fail
                  go_roundw
                  case rel => exact ⟨m + 1, by omega, by go_num, BB⟩
                  case measure => simp [intOf]; omega
                · go_wp2_with fail
                  go_roundw
                  case rel => exact ⟨m + 1, by omega, by go_num, BB⟩
                  case measure => simp [intOf]; omega
                · go_wp2_with fail
                  go_roundw
                  case rel => exact ⟨m + 1, by omega, by go_num, BB⟩
                  case measure => simp [intOf]; omega
              · rw [hE]
                have M := lmay_no hg
                clear hg
                rcases hD with hD | ⟨rfl, hD⟩ | ⟨rfl, rfl, hD⟩
                · go_wp2_with fail
                  refine (M.out _).mono ?_
                  rintro e w7 ⟨rfl, hb7⟩
                  have B7 := hide (next BB.out hb7)
                  clear hb7
                  go_wp2_with fail
                  go_roundw
                  case rel => exact ⟨m + 1, by omega, by go_num, B7⟩
                  case measure => simp [intOf]; omega
                · go_wp2_with fail
                  refine (M.out _).mono ?_
                  rintro e w7 ⟨rfl, hb7⟩
                  have B7 := hide (next BB.out hb7)
                  clear hb7
                  go_wp2_with fail
                  go_roundw
                  case rel => exact ⟨m + 1, by omega, by go_num, B7⟩
                  case measure => simp [intOf]; omega
                · go_wp2_with fail
                  refine (M.out _).mono ?_
                  rintro e w7 ⟨rfl, hb7⟩
                  have B7 := hide (next BB.out hb7)
                  clear hb7
                  go_wp2_with fail
                  go_roundw
                  case rel => exact ⟨m + 1, by omega, by go_num, B7⟩
                  case measure => simp [intOf]; omega
              · rw [hE]
                have M := lmay_yes hg
                have M' := lmay_no hg'
                clear hg hg'
                rcases hD with hD | ⟨rfl, hD⟩ | ⟨rfl, rfl, hD⟩
                · go_wp2_with fail
                  refine (M.out _).mono ?_
                  rintro e w7 ⟨rfl, hb7⟩
                  have B7 := hide (next BB.out hb7)
                  have G7 := hide (next G.out hb7)
                  have Z0 := (F2.out.keep G7.out).c0
                  have Z1 := (F2.out.keep G7.out).c1
                  have Z2 := (F2.out.keep G7.out).c2
                  clear hb7 X0 X1 X2 Y0 Y1 Y2
                  go_wp2_with fail
                  refine (M'.out _).mono ?_
                  rintro e w8 ⟨rfl, hb8⟩
                  have B8 := hide (next B7.out hb8)
                  clear hb8 Z0 Z1 Z2
                  go_wp2_with fail
                  go_roundw
                  case rel => exact ⟨m + 1, by omega, by go_num, B8⟩
                  case measure => simp [intOf]; omega
                · go_wp2_with fail
                  refine (M.out _).mono ?_
                  rintro e w7 ⟨rfl, hb7⟩
                  have B7 := hide (next BB.out hb7)
                  have G7 := hide (next G.out hb7)
                  have Z0 := (F2.out.keep G7.out).c0
                  have Z1 := (F2.out.keep G7.out).c1
                  have Z2 := (F2.out.keep G7.out).c2
                  clear hb7 X0 X1 X2 Y0 Y1 Y2
                  go_wp2_with fail
                  refine (M'.out _).mono ?_
                  rintro e w8 ⟨rfl, hb8⟩
                  have B8 := hide (next B7.out hb8)
                  clear hb8 Z0 Z1 Z2
                  go_wp2_with fail
                  go_roundw
                  case rel => exact ⟨m + 1, by omega, by go_num, B8⟩
                  case measure => simp [intOf]; omega
                · go_wp2_with fail
                  refine (M.out _).mono ?_
                  rintro e w7 ⟨rfl, hb7⟩
                  have B7 := hide (next BB.out hb7)
                  have G7 := hide (next G.out hb7)
                  have Z0 := (F2.out.keep G7.out).c0
                  have Z1 := (F2.out.keep G7.out).c1
                  have Z2 := (F2.out.keep G7.out).c2
                  clear hb7 X0 X1 X2 Y0 Y1 Y2
                  go_wp2_with fail
                  refine (M'.out _).mono ?_
                  rintro e w8 ⟨rfl, hb8⟩
                  have B8 := hide (next B7.out hb8)
                  clear hb8 Z0 Z1 Z2
                  go_wp2_with fail
                  go_roundw
                  case rel => exact ⟨m + 1, by omega, by go_num, B8⟩
                  case measure => simp [intOf]; omega)
        · obtain rfl : m = n := by omega
          go_wp2_with fail
          go_roundw
          case rel => exact ⟨m + 1, by omega, by go_num, Hc⟩
          case measure => simp [intOf]; omega
    · by_cases h1 : n < len
      · have q1 : (n : Int) < (len : Int) := by omega
        have q2 : ¬ (n : Int) < 60 := by omega
        go_wp2_with fail
        go_ret
        exact ⟨rfl, Hb.out⟩
      · have q1 : ¬ (n : Int) < (len : Int) := by omega
        go_wp2_with fail
        go_ret
        exact ⟨rfl, Hb.out⟩
theorem hashApart_walk {W : World} (a : Option Addr) (len cap : Nat) (h : ValsIn W a len) :
    Calls Try.prog 5 #[.slice a len cap] W fun e w' => e = .returned (.bool true) ∧ Below W.heap.size W w' := by
  rcases h with rfl | ⟨b, off, rfl, hl, ho⟩
  · exact hashApart_none a cap W
  · exact hashApart_some b off len cap W hl (hide ho)
end Go.Proofs.Ytdbdonpcdoeeiaa
