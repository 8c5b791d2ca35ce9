/- What the reference's small functions answer: which places there are, letters, digits, a column's letters, a number's digits, columns and rows. Proved of the Go text. -/
import Derived.Test.YtcabgnikbgoikaaDoorCaps
import Derived.StillTactics
namespace Go.Proofs.YtcabgnikbgoikaaDoor
open Go.RowKit Go.Sort
set_option linter.unusedVariables false
set_option maxRecDepth 100000

theorem refMay_any (r c : Int) (w : World) : Calls Tryd.prog 34 #[spotV r c] w fun e w' => e = .returned (.bool (mayB r c)) ∧ w' = w.alloc (spotO r c) := by
  by_cases h1 : 0 ≤ r
  · by_cases h2 : r < 65536
    · by_cases h3 : 0 ≤ c
      · by_cases h4 : c < 702
        · go_enter Tryd.func34, Tryd.ntmps34
          go_wp2
          go_ret
          exact ⟨ret_bool (by simp [mayB]; omega), rfl⟩
        · go_enter Tryd.func34, Tryd.ntmps34
          go_wp2
          go_ret
          exact ⟨ret_bool (by simp [mayB]; omega), rfl⟩
      · go_enter Tryd.func34, Tryd.ntmps34
        go_wp2
        go_ret
        exact ⟨ret_bool (by simp [mayB]; omega), rfl⟩
    · go_enter Tryd.func34, Tryd.ntmps34
      go_wp2
      go_ret
      exact ⟨ret_bool (by simp [mayB]; omega), rfl⟩
  · go_enter Tryd.func34, Tryd.ntmps34
    go_wp2
    go_ret
    exact ⟨ret_bool (by simp [mayB]; omega), rfl⟩

theorem refDigit_any (c : UInt8) (w : World) : Calls Tryd.prog 42 #[.int .u8 c.toNat] w fun e w' => e = .returned (.bool (dig c)) ∧ w' = w := by
  by_cases h1 : 48 ≤ (c.toNat : Int)
  · by_cases h2 : (c.toNat : Int) ≤ 57
    · go_enter Tryd.func42, Tryd.ntmps42
      go_wp2
      go_ret
      exact ⟨ret_bool (by simp [dig]; omega), rfl⟩
    · go_enter Tryd.func42, Tryd.ntmps42
      go_wp2
      go_ret
      exact ⟨ret_bool (by simp [dig]; omega), rfl⟩
  · go_enter Tryd.func42, Tryd.ntmps42
    go_wp2
    go_ret
    exact ⟨ret_bool (by simp [dig]; omega), rfl⟩

theorem still_all {P : Program} {id : Nat} {Q : Exit → Act → World → Prop} {a : Act} {w : World} {l : List Oper} (hm : P.follows .mixedOrders = true) (hB : Region.lexB .any l.toArray = true)
    (h : wpStill P l.toArray w.drew (fun a' => Q .normal a' w.drew) l a) : (Code.region id l.toArray true).wp P Q a w := wp_region_still_lit hm hB h
/-- Which letter, A being 0; none: -1. -/
def ltrI (c : UInt8) : Int := if isL c then (ltr c : Int) - 1 else -1
theorem ltrI_cap (c : UInt8) (h1 : 65 ≤ (c.toNat : Int)) (h2 : (c.toNat : Int) ≤ 90) : ltrI c = (c.toNat : Int) - 65 := by
  have hs : isS c = false := by simp [isS]; omega
  have hl : isL c = true := by simp [isL, isC]; omega
  obtain ⟨e1, e2, e3⟩ := ltr_cap c hl hs
  unfold ltrI
  rw [if_pos hl, e3]; omega
theorem ltrI_small (c : UInt8) (h1 : 97 ≤ (c.toNat : Int)) (h2 : (c.toNat : Int) ≤ 122) : ltrI c = (c.toNat : Int) - 97 := by
  have hs : isS c = true := by simp [isS]; omega
  have hl : isL c = true := by simp [isL, hs]
  obtain ⟨e1, e2, e3⟩ := ltr_small c hs
  unfold ltrI
  rw [if_pos hl, e3]; omega
theorem ltrI_none (c : UInt8) (h : (c.toNat : Int) < 65 ∨ (90 < (c.toNat : Int) ∧ (c.toNat : Int) < 97) ∨ 122 < (c.toNat : Int)) : ltrI c = -1 := by
  unfold ltrI
  rw [if_neg (by simp [isL, isC, isS]; omega)]

theorem letter_any (c : UInt8) (w : World) : Calls Tryd.prog 41 #[.int .u8 c.toNat] w fun e w' => e = .returned (.int .i64 (ltrI c)) ∧ w' = w := by
  by_cases h1 : (c.toNat : Int) < 65
  · have HE := hide (ltrI_none c (.inl h1))
    have n1 : ¬ 65 ≤ (c.toNat : Int) := by omega
    have n2 : ¬ 97 ≤ (c.toNat : Int) := by omega
    go_enter Tryd.func41, Tryd.ntmps41
    go_wp2
    go_ret
    rw [HE.out]; exact ⟨rfl, rfl⟩
  by_cases h2 : (c.toNat : Int) ≤ 90
  · have HE := hide (ltrI_cap c (by omega) h2)
    have n1 : 65 ≤ (c.toNat : Int) := by omega
    clear h1
    go_enter Tryd.func41, Tryd.ntmps41
    go_wp2
    go_ret
    rw [HE.out]; exact ⟨rfl, rfl⟩
  by_cases h3 : (c.toNat : Int) < 97
  · have HE := hide (ltrI_none c (.inr (.inl ⟨by omega, h3⟩)))
    have n1 : 65 ≤ (c.toNat : Int) := by omega
    have n2 : ¬ 97 ≤ (c.toNat : Int) := by omega
    clear h1
    go_enter Tryd.func41, Tryd.ntmps41
    go_wp2
    go_ret
    rw [HE.out]; exact ⟨rfl, rfl⟩
  by_cases h4 : (c.toNat : Int) ≤ 122
  · have HE := hide (ltrI_small c (by omega) h4)
    have n1 : 65 ≤ (c.toNat : Int) := by omega
    have n2 : 97 ≤ (c.toNat : Int) := by omega
    clear h1 h3
    go_enter Tryd.func41, Tryd.ntmps41
    go_wp2
    go_ret
    rw [HE.out]; exact ⟨rfl, rfl⟩
  · have HE := hide (ltrI_none c (.inr (.inr (by omega))))
    have n1 : 65 ≤ (c.toNat : Int) := by omega
    have n2 : 97 ≤ (c.toNat : Int) := by omega
    clear h1 h3
    go_enter Tryd.func41, Tryd.ntmps41
    go_wp2
    go_ret
    rw [HE.out]; exact ⟨rfl, rfl⟩


/-- The reference's column of some letters: 702 where there is none. -/
def colR (l : List UInt8) : Int := if col l ≤ 702 then (col l : Int) - 1 else 702
set_option maxHeartbeats 400000 in
theorem column_any (s : ByteArray) (w : World) (hs : s.size ≤ maxLen) (hl : lts s.data.toList = true) (h0 : 0 < s.size) :
    Calls Tryd.prog 43 #[.string s] w fun e w' => e = .returned (.int .i64 (colR s.data.toList)) ∧ ∃ n, w' = w.drewN n := by
  unfold maxLen at hs
  have L0 := lts_at s 0 h0 hl
  have HL0 := hide (show ltrI s[0] = (ltr s[0] : Int) - 1 by unfold ltrI; rw [if_pos L0])
  have b0 := (capOf_L _ L0).2.2.2
  by_cases h1 : s.size = 1
  · have HE : Hid (colR s.data.toList = ltrI s[0]) := by
      obtain ⟨r, hr⟩ := toList_cons s h0
      have hz := Lib.size_eq s
      rw [hr, h1] at hz
      simp at hz
      subst hz
      rw [hr, HL0.out]
      have e : col [s[0]] = ltr s[0] := by simp [col]
      unfold colR
      rw [e, if_pos (by omega)]; rfl
    have t1 : ((s.size : Int) == 1) = true := by rw [beq_iff_eq]; omega
    clear L0 b0 HL0
    go_enter Tryd.func43, Tryd.ntmps43
    go_wp2_with (go_at_call 41; refine (letter_any _ _).mono ?_; rintro e w' ⟨rfl, rfl⟩)
    go_ret
    rw [HE.out]
    exact ⟨rfl, 0, rfl⟩
  by_cases h2 : s.size = 2
  · have h1' : 1 < s.size := by omega
    have L1 := lts_at s 1 h1' hl
    have HL1 := hide (show ltrI s[1] = (ltr s[1] : Int) - 1 by unfold ltrI; rw [if_pos L1])
    have b1 := (capOf_L _ L1).2.2.2
    have HE : Hid (colR s.data.toList = 26 + 26 * ltrI s[0] + ltrI s[1]) := by
      have d0 := drop_cons s 0 h0
      rw [List.drop_zero, drop_cons s 1 h1', drop_nil s 2 (by omega)] at d0
      rw [d0, HL0.out, HL1.out]
      have e : col [s[0], s[1]] = ltr s[0] * 26 + ltr s[1] := by simp [col]
      unfold colR
      rw [e, if_pos (by omega)]
      show _ = _
      omega
    have t1 : ((s.size : Int) == 1) = false := by rw [beq_eq_false_iff_ne]; omega
    have t2 : ((s.size : Int) == 2) = true := by rw [beq_iff_eq]; omega
    have g0 : 0 ≤ ltrI s[0] ∧ ltrI s[0] ≤ 25 := by rw [HL0.out]; omega
    have g1 : 0 ≤ ltrI s[1] ∧ ltrI s[1] ≤ 25 := by rw [HL1.out]; omega
    obtain ⟨g0, g0'⟩ := g0
    obtain ⟨g1, g1'⟩ := g1
    have q1 : (1 : Int) < s.size := by omega
    clear L0 L1 b0 b1 HL0 HL1 h1 h2
    go_enter Tryd.func43, Tryd.ntmps43
    go_wp2_with fail
    refine still_all (by kernel_rfl) (by kernel_rfl) ?_
    repeat (first | still_step | still_call (letter_any _ _))
    refine wpStill_nil ?_
    rw [IntWalk.i64_in ((26 : Int) * ltrI s[0]) (by omega), IntWalk.i64_in ((26 : Int) + (26 : Int) * ltrI s[0]) (by omega), IntWalk.i64_in ((26 : Int) + (26 : Int) * ltrI s[0] + ltrI s[1]) (by omega)]
    go_wp2_with fail
    go_ret
    rw [HE.out]
    exact ⟨rfl, 1, rfl⟩
  · have HE : Hid (colR s.data.toList = 702) := by
      have hp1 : 1 < s.size := by omega
      have hp2 : 2 < s.size := by omega
      have d0 := drop_cons s 0 h0
      rw [List.drop_zero, drop_cons s 1 hp1, drop_cons s 2 hp2] at d0
      have c3 := col_three s[0] s[1] s[2] (s.data.toList.drop 3) L0 (lts_at s 1 hp1 hl) (lts_at s 2 hp2 hl)
      rw [← d0] at c3
      unfold colR
      rw [if_neg (by omega)]; rfl
    have t1 : ((s.size : Int) == 1) = false := by rw [beq_eq_false_iff_ne]; omega
    have t2 : ((s.size : Int) == 2) = false := by rw [beq_eq_false_iff_ne]; omega
    clear L0 b0 HL0
    go_enter Tryd.func43, Tryd.ntmps43
    go_wp2
    go_ret
    rw [HE.out]
    exact ⟨rfl, 0, rfl⟩

/-- The reference's row of some digits: 65536 where there is none. -/
def rowR (l : List UInt8) : Int := if val l ≤ 65536 then (val l : Int) - 1 else 65536
set_option maxHeartbeats 400000 in
theorem row_any (s : ByteArray) (w : World) (hs : s.size ≤ maxLen) (hl : dgs s.data.toList = true) :
    Calls Tryd.prog 44 #[.string s] w fun e w' => e = .returned (.int .i64 (rowR s.data.toList)) ∧ w' = w := by
  unfold maxLen at hs
  have HL := hide hl
  clear hl
  go_enter Tryd.func44, Tryd.ntmps44
  go_wp2
  go_loop [3, 4] (fun b i => ∃ k v : Nat, k ≤ s.size ∧ i = .int .i64 k ∧ Hid (v = val (s.data.toList.take k)) ∧ b = .int .i64 v ∧ v ≤ 655369) (fun _ i => s.size - (intOf i).toNat)
  case atStart => exact ⟨0, 0, Nat.zero_le _, rfl, rfl, rfl, Nat.zero_le _⟩
  case round =>
    obtain ⟨k, v, hk, rfl, Hv, rfl, hvb⟩ := hrel
    by_cases hv : v ≤ 65536
    · have hv' : (v : Int) ≤ 65536 := by omega
      have hv2 : ¬ (65536 : Int) < v := by omega
      by_cases hlt : k < s.size
      · have Hn : Hid (val (s.data.toList.take (k + 1)) = v * 10 + (s[k].toNat - 48)) := by rw [take_snoc s k hlt, val_snoc, ← Hv.out]; rfl
        obtain ⟨d1, d2⟩ := dgs_at s k hlt HL.out
        have d1' : 48 ≤ (s[k].toNat : Int) := by omega
        have d2' : (s[k].toNat : Int) ≤ 57 := by omega
        go_wp2
        go_round
        case rel => exact ⟨k + 1, v * 10 + (s[k].toNat - 48), by omega, by go_num, Hn.out.symm, congrArg (Value.int .i64) (by omega), by omega⟩
        case measure => simp [intOf]; omega
      · have HE : Hid (rowR s.data.toList = (v : Int) - 1) := by
          have : v = val s.data.toList := by rw [← take_all s k (by omega)]; exact Hv.out
          unfold rowR
          rw [← this, if_pos hv]; rfl
        go_wp2
        go_ret
        rw [HE.out]
        exact ⟨rfl, rfl⟩
    · have HE : Hid (rowR s.data.toList = 65536) := by
        have h1 := val_take s.data.toList k
        rw [← Hv.out] at h1
        unfold rowR
        rw [if_neg (by omega)]; rfl
      have hv' : ¬ (v : Int) ≤ 65536 := by omega
      have hv2 : (65536 : Int) < v := by omega
      by_cases hlt : k < s.size
      · go_wp2
        go_ret
        rw [HE.out]
        exact ⟨rfl, rfl⟩
      · go_wp2
        go_ret
        rw [HE.out]
        exact ⟨rfl, rfl⟩
end Go.Proofs.YtcabgnikbgoikaaDoor
