/- What the functions of package spot that go over bytes answer, for every text: proved of the Go text. What spot.ReadRef answers, for every text: the reference that the text begins with, how many bytes it has, and whether there is one: proved of the Go text. What spot.Text, spot.Read, readCorner and between answer, for every place, text and corners: proved of the Go text. -/
import Derived.Test.YtdlomdbmmhjppaaGreatDoorLeJ
import Derived.Test.YtdlomdbmmhjppaaGreatDoorPlaces
import Derived.Handy
namespace Go.Proofs.YtdlomdbmmhjppaaGreatDoor
open Go.RowKit
set_option linter.unusedVariables false

theorem behindAll_L (s : ByteArray) (i : Nat) (w : World) (hs : s.size ≤ maxLen) (hi : i ≤ s.size) :
    Calls Tryz.prog 172 #[.string s, .int .i64 i, .func (.func 173) #[] #[]] w fun e w' => e = .returned (.int .i64 (runE isL s i)) ∧ w' = w := by
  unfold maxLen at hs
  go_enter Tryz.func172, Tryz.ntmps172
  go_wp2
  go_loop [1] (fun a => ∃ k : Nat, k ≤ s.size ∧ a = .int .i64 k ∧ Hid (runE isL s i = runE isL s k)) (fun a => s.size - (intOf a).toNat)
  case atStart => exact ⟨i, hi, rfl, rfl⟩
  case round =>
    obtain ⟨k, hk, rfl, Hr⟩ := hrel
    by_cases hlt : k < s.size
    · cases hc : isL s[k]
      · have HE := hide (Hr.out.trans (runE_stop _ s k hlt hc))
        go_wp2_with (go_at_call 173; refine (isLetter_any _ _).mono ?_; rintro e w' ⟨rfl, rfl⟩)
        go_ret
        rw [HE.out]
        exact ⟨rfl, rfl⟩
      · have HE := hide (Hr.out.trans (runE_step _ s k hlt hc))
        go_wp2_with (go_at_call 173; refine (isLetter_any _ _).mono ?_; rintro e w' ⟨rfl, rfl⟩)
        go_round
        case rel => exact ⟨k + 1, by omega, by go_num, HE.out⟩
        case measure => simp [intOf]; omega
    · have HE := hide (Hr.out.trans (runE_end _ s k (by omega)))
      go_wp2
      go_ret
      rw [HE.out]
      exact ⟨rfl, rfl⟩

theorem behindAll_D (s : ByteArray) (i : Nat) (w : World) (hs : s.size ≤ maxLen) (hi : i ≤ s.size) :
    Calls Tryz.prog 172 #[.string s, .int .i64 i, .func (.func 174) #[] #[]] w fun e w' => e = .returned (.int .i64 (runE dig s i)) ∧ w' = w := by
  unfold maxLen at hs
  go_enter Tryz.func172, Tryz.ntmps172
  go_wp2
  go_loop [1] (fun a => ∃ k : Nat, k ≤ s.size ∧ a = .int .i64 k ∧ Hid (runE dig s i = runE dig s k)) (fun a => s.size - (intOf a).toNat)
  case atStart => exact ⟨i, hi, rfl, rfl⟩
  case round =>
    obtain ⟨k, hk, rfl, Hr⟩ := hrel
    by_cases hlt : k < s.size
    · cases hc : dig s[k]
      · have HE := hide (Hr.out.trans (runE_stop _ s k hlt hc))
        go_wp2_with (go_at_call 174; refine (isDigit_any _ _).mono ?_; rintro e w' ⟨rfl, rfl⟩)
        go_ret
        rw [HE.out]
        exact ⟨rfl, rfl⟩
      · have HE := hide (Hr.out.trans (runE_step _ s k hlt hc))
        go_wp2_with (go_at_call 174; refine (isDigit_any _ _).mono ?_; rintro e w' ⟨rfl, rfl⟩)
        go_round
        case rel => exact ⟨k + 1, by omega, by go_num, HE.out⟩
        case measure => simp [intOf]; omega
    · have HE := hide (Hr.out.trans (runE_end _ s k (by omega)))
      go_wp2
      go_ret
      rw [HE.out]
      exact ⟨rfl, rfl⟩

set_option maxHeartbeats 400000 in
theorem columnOf_yes (s : ByteArray) (w : World) (hs : s.size ≤ maxLen) (hl : lts s.data.toList = true) (hc : col s.data.toList ≤ 702) :
    Calls Tryz.prog 175 #[.string s] w fun e w' => e = .returned (.tuple #[.int .i64 ((col s.data.toList : Int) - 1), .bool true]) ∧ w' = w := by
  unfold maxLen at hs
  have HL := hide hl
  clear hl
  have HV := hide hc
  clear hc
  go_enter Tryz.func175, Tryz.ntmps175
  go_wp2
  go_loop [4, 9, 5, 6] (fun b i _ _ => ∃ k v : Nat, k ≤ s.size ∧ i = .int .i64 k ∧ Hid (v = col (s.data.toList.take k)) ∧ b = .int .i64 v ∧ v ≤ 702) (fun _ i _ _ => s.size - (intOf i).toNat)
  case atStart => exact ⟨0, 0, Nat.zero_le _, rfl, rfl, rfl, Nat.zero_le _⟩
  case round =>
    obtain ⟨k, v, hk, rfl, Hv, rfl, hvb⟩ := hrel
    by_cases hlt : k < s.size
    · have Hn : Hid (col (s.data.toList.take (k + 1)) = v * 26 + ltr s[k]) := by rw [take_snoc s k hlt, col_snoc, ← Hv.out]; rfl
      have hll := lts_at s k hlt HL.out
      cases h2 : isS s[k]
      · obtain ⟨d1, d2, d3⟩ := ltr_cap s[k] hll h2
        have d1' : 65 ≤ (s[k].toNat : Int) := by omega
        have d2' : (s[k].toNat : Int) ≤ 90 := by omega
        have hm := Nat.le_trans (col_take s.data.toList (k + 1)) HV.out
        rw [Hn.out] at hm
        go_wp2_with (go_at_call 200; refine (isSmall_any _ _).mono ?_; rintro e w' ⟨rfl, rfl⟩)
        go_round
        case rel => exact ⟨k + 1, v * 26 + ltr s[k], by omega, by go_num, Hn.out.symm, congrArg (Value.int .i64) (by omega), hm⟩
        case measure => simp [intOf]; omega
      · obtain ⟨d1, d2, d3⟩ := ltr_small s[k] h2
        have d1' : 97 ≤ (s[k].toNat : Int) := by omega
        have d2' : (s[k].toNat : Int) ≤ 122 := by omega
        have hm := Nat.le_trans (col_take s.data.toList (k + 1)) HV.out
        rw [Hn.out] at hm
        go_wp2_with (go_at_call 200; refine (isSmall_any _ _).mono ?_; rintro e w' ⟨rfl, rfl⟩)
        go_round
        case rel => exact ⟨k + 1, v * 26 + ltr s[k], by omega, by go_num, Hn.out.symm, congrArg (Value.int .i64) (by omega), hm⟩
        case measure => simp [intOf]; omega
    · have Hz : Hid (v = col s.data.toList) := by rw [← take_all s k (by omega)]; exact Hv.out
      go_wp2
      go_ret2
      exact ⟨by rw [Hz.out]; rfl, rfl⟩

set_option maxHeartbeats 400000 in
theorem columnOf_no (s : ByteArray) (w : World) (hs : s.size ≤ maxLen) (hl : lts s.data.toList = true) (hc : 702 < col s.data.toList) :
    Calls Tryz.prog 175 #[.string s] w fun e w' => e = .returned (.tuple #[.int .i64 0, .bool false]) ∧ w' = w := by
  unfold maxLen at hs
  have HL := hide hl
  clear hl
  have HV := hide hc
  clear hc
  go_enter Tryz.func175, Tryz.ntmps175
  go_wp2
  go_loop [4, 9, 5, 6] (fun b i _ _ => ∃ k v : Nat, k ≤ s.size ∧ i = .int .i64 k ∧ Hid (v = col (s.data.toList.take k)) ∧ b = .int .i64 v ∧ v ≤ 702) (fun _ i _ _ => s.size - (intOf i).toNat)
  case atStart => exact ⟨0, 0, Nat.zero_le _, rfl, rfl, rfl, Nat.zero_le _⟩
  case round =>
    obtain ⟨k, v, hk, rfl, Hv, rfl, hvb⟩ := hrel
    by_cases hlt : k < s.size
    · have Hn : Hid (col (s.data.toList.take (k + 1)) = v * 26 + ltr s[k]) := by rw [take_snoc s k hlt, col_snoc, ← Hv.out]; rfl
      have hll := lts_at s k hlt HL.out
      cases h2 : isS s[k]
      · obtain ⟨d1, d2, d3⟩ := ltr_cap s[k] hll h2
        have d1' : 65 ≤ (s[k].toNat : Int) := by omega
        have d2' : (s[k].toNat : Int) ≤ 90 := by omega
        by_cases hm : v * 26 + ltr s[k] ≤ 702
        · go_wp2_with (go_at_call 200; refine (isSmall_any _ _).mono ?_; rintro e w' ⟨rfl, rfl⟩)
          go_round
          case rel => exact ⟨k + 1, v * 26 + ltr s[k], by omega, by go_num, Hn.out.symm, congrArg (Value.int .i64) (by omega), hm⟩
          case measure => simp [intOf]; omega
        · go_wp2_with (go_at_call 200; refine (isSmall_any _ _).mono ?_; rintro e w' ⟨rfl, rfl⟩)
          go_ret2
          exact ⟨rfl, rfl⟩
      · obtain ⟨d1, d2, d3⟩ := ltr_small s[k] h2
        have d1' : 97 ≤ (s[k].toNat : Int) := by omega
        have d2' : (s[k].toNat : Int) ≤ 122 := by omega
        by_cases hm : v * 26 + ltr s[k] ≤ 702
        · go_wp2_with (go_at_call 200; refine (isSmall_any _ _).mono ?_; rintro e w' ⟨rfl, rfl⟩)
          go_round
          case rel => exact ⟨k + 1, v * 26 + ltr s[k], by omega, by go_num, Hn.out.symm, congrArg (Value.int .i64) (by omega), hm⟩
          case measure => simp [intOf]; omega
        · go_wp2_with (go_at_call 200; refine (isSmall_any _ _).mono ?_; rintro e w' ⟨rfl, rfl⟩)
          go_ret2
          exact ⟨rfl, rfl⟩
    · exfalso
      have := HV.out
      rw [← take_all s k (by omega), ← Hv.out] at this
      omega

set_option maxHeartbeats 400000 in
theorem rowOf_yes (s : ByteArray) (w : World) (hs : s.size ≤ maxLen) (hl : dgs s.data.toList = true) (hc : val s.data.toList ≤ 65536) :
    Calls Tryz.prog 176 #[.string s] w fun e w' => e = .returned (.tuple #[.int .i64 ((val s.data.toList : Int) - 1), .bool true]) ∧ w' = w := by
  unfold maxLen at hs
  have HL := hide hl
  clear hl
  have HV := hide hc
  clear hc
  go_enter Tryz.func176, Tryz.ntmps176
  go_wp2
  go_loop [4, 8, 5] (fun b i _ => ∃ k v : Nat, k ≤ s.size ∧ i = .int .i64 k ∧ Hid (v = val (s.data.toList.take k)) ∧ b = .int .i64 v ∧ v ≤ 65536) (fun _ i _ => s.size - (intOf i).toNat)
  case atStart => exact ⟨0, 0, Nat.zero_le _, rfl, rfl, rfl, Nat.zero_le _⟩
  case round =>
    obtain ⟨k, v, hk, rfl, Hv, rfl, hvb⟩ := hrel
    by_cases hlt : k < s.size
    · have Hn : Hid (val (s.data.toList.take (k + 1)) = v * 10 + (s[k].toNat - 48)) := by rw [take_snoc s k hlt, val_snoc, ← Hv.out]; rfl
      obtain ⟨d1, d2⟩ := dgs_at s k hlt HL.out
      have d1' : 48 ≤ (s[k].toNat : Int) := by omega
      have d2' : (s[k].toNat : Int) ≤ 57 := by omega
      have hm := Nat.le_trans (val_take s.data.toList (k + 1)) HV.out
      rw [Hn.out] at hm
      go_wp2
      go_round
      case rel => exact ⟨k + 1, v * 10 + (s[k].toNat - 48), by omega, by go_num, Hn.out.symm, congrArg (Value.int .i64) (by omega), hm⟩
      case measure => simp [intOf]; omega
    · have Hz : Hid (v = val s.data.toList) := by rw [← take_all s k (by omega)]; exact Hv.out
      go_wp2
      go_ret2
      exact ⟨by rw [Hz.out]; rfl, rfl⟩

set_option maxHeartbeats 400000 in
theorem rowOf_no (s : ByteArray) (w : World) (hs : s.size ≤ maxLen) (hl : dgs s.data.toList = true) (hc : 65536 < val s.data.toList) :
    Calls Tryz.prog 176 #[.string s] w fun e w' => e = .returned (.tuple #[.int .i64 0, .bool false]) ∧ w' = w := by
  unfold maxLen at hs
  have HL := hide hl
  clear hl
  have HV := hide hc
  clear hc
  go_enter Tryz.func176, Tryz.ntmps176
  go_wp2
  go_loop [4, 8, 5] (fun b i _ => ∃ k v : Nat, k ≤ s.size ∧ i = .int .i64 k ∧ Hid (v = val (s.data.toList.take k)) ∧ b = .int .i64 v ∧ v ≤ 65536) (fun _ i _ => s.size - (intOf i).toNat)
  case atStart => exact ⟨0, 0, Nat.zero_le _, rfl, rfl, rfl, Nat.zero_le _⟩
  case round =>
    obtain ⟨k, v, hk, rfl, Hv, rfl, hvb⟩ := hrel
    by_cases hlt : k < s.size
    · have Hn : Hid (val (s.data.toList.take (k + 1)) = v * 10 + (s[k].toNat - 48)) := by rw [take_snoc s k hlt, val_snoc, ← Hv.out]; rfl
      obtain ⟨d1, d2⟩ := dgs_at s k hlt HL.out
      have d1' : 48 ≤ (s[k].toNat : Int) := by omega
      have d2' : (s[k].toNat : Int) ≤ 57 := by omega
      by_cases hm : v * 10 + (s[k].toNat - 48) ≤ 65536
      · go_wp2
        go_round
        case rel => exact ⟨k + 1, v * 10 + (s[k].toNat - 48), by omega, by go_num, Hn.out.symm, congrArg (Value.int .i64) (by omega), hm⟩
        case measure => simp [intOf]; omega
      · go_wp2
        go_ret2
        exact ⟨rfl, rfl⟩
    · exfalso
      have := HV.out
      rw [← take_all s k (by omega), ← Hv.out] at this
      omega

end Go.Proofs.YtdlomdbmmhjppaaGreatDoor
namespace Go.Proofs.YtdlomdbmmhjppaaGreatDoor
open Go.RowKit
set_option linter.unusedVariables false

/-- Where the parts of the reference that a text may begin with end. -/
def cA (s : ByteArray) : Nat := pinE s 0
def cB (s : ByteArray) : Nat := runE isL s (cA s)
def cC (s : ByteArray) : Nat := pinE s (cB s)
def cD (s : ByteArray) : Nat := runE dig s (cC s)
def lead0 : List UInt8 → Bool
  | [] => false
  | c :: _ => c == 48
/-- It begins with none. -/
def synS (s : ByteArray) : Bool := cB s == cA s || cD s == cC s || lead0 (s.data.toList.drop (cC s))
def colS (s : ByteArray) : Nat := col (s.extract (cA s) (cB s)).data.toList
def rowS (s : ByteArray) : Nat := val (s.extract (cC s) (cD s)).data.toList
def offS (s : ByteArray) : Bool := decide (702 < colS s) || decide (65536 < rowS s)
/-- What is answered: error, bytes, row, column, pins. -/
def rE (s : ByteArray) : Int := if synS s then 20 else if offS s then 10 else 0
def rN (s : ByteArray) : Nat := if synS s then 0 else cD s
def rR (s : ByteArray) : Int := if synS s || offS s then 0 else (rowS s : Int) - 1
def rC (s : ByteArray) : Int := if synS s || offS s then 0 else (colS s : Int) - 1
def rP (s : ByteArray) : Bool := !(synS s || offS s) && decide (cB s < cC s)
def rQ (s : ByteArray) : Bool := !(synS s || offS s) && decide (0 < cA s)

theorem cut_le (s : ByteArray) : cA s ≤ cB s ∧ cB s ≤ cC s ∧ cC s ≤ cD s ∧ cD s ≤ s.size := by
  have h1 : cA s ≤ s.size := pinE_le s 0 (Nat.zero_le _)
  have h2 : cB s ≤ s.size := runE_le _ s _ h1
  have h3 : cC s ≤ s.size := pinE_le s _ h2
  exact ⟨runE_ge _ _ _, pinE_ge _ _, runE_ge _ _ _, runE_le _ s _ h3⟩
theorem lead0_at (s : ByteArray) (c : Nat) (h : c < s.size) : lead0 (s.data.toList.drop c) = ((s[c].toNat : Int) == 48) := by
  rw [drop_cons s c h, eq_48]; rfl
theorem ret_ref {a b c d e f : Int} {p q r t : Bool} {n m : Int} (h1 : a = b) (h2 : c = d) (h3 : p = q) (h4 : r = t) (h5 : n = m) (h6 : e = f) :
    Ending.returned (.tuple #[refV a c p r, .int .i64 n, .int .i64 e]) = .returned (.tuple #[refV b d q t, .int .i64 m, .int .i64 f]) := by rw [h1, h2, h3, h4, h5, h6]

set_option maxHeartbeats 1000000 in
theorem readRef_s1 (s : ByteArray) (w : World) (hs : s.size ≤ maxLen) (h : cB s = cA s) :
    Calls Tryz.prog 141 #[.string s] w fun e w' => e = .returned (.tuple #[refV 0 0 false false, .int .i64 0, .int .i64 20]) ∧ w' = w.alloc (refO 0 0 false false) := by
  have hs' : s.size ≤ 9223372036854775807 := hs
  obtain ⟨l1, l2, l3, l4⟩ := cut_le s
  have PA := hide (fun w => behindPin_any s 0 w hs (Nat.zero_le _))
  have PB := hide (fun w => behindAll_L s (cA s) w hs (by omega))
  have PC := hide (fun w => behindPin_any s (cB s) w hs (by omega))
  have PD := hide (fun w => behindAll_D s (cC s) w hs (by omega))
  rw [show pinE s 0 = cA s from rfl] at PA
  rw [show runE isL s (cA s) = cB s from rfl] at PB
  rw [show pinE s (cB s) = cC s from rfl] at PC
  rw [show runE dig s (cC s) = cD s from rfl] at PD

  clear hs
  generalize cA s = a at *
  generalize cB s = b at *
  generalize cC s = c at *
  generalize cD s = d at *
  subst h
  go_enter Tryz.func141, Tryz.ntmps141
  go_wp2_with fail
  refine (PA.out _).mono ?_
  rintro e w' ⟨rfl, rfl⟩
  go_wp2_with fail
  refine (PB.out _).mono ?_
  rintro e w' ⟨rfl, rfl⟩
  go_wp2_with fail
  refine (PC.out _).mono ?_
  rintro e w' ⟨rfl, rfl⟩
  go_wp2_with fail
  refine (PD.out _).mono ?_
  rintro e w' ⟨rfl, rfl⟩
  go_wp2_with fail
  go_returns
  exact ⟨rfl, rfl⟩

set_option maxHeartbeats 1000000 in
theorem readRef_s2 (s : ByteArray) (w : World) (hs : s.size ≤ maxLen) (h : cB s ≠ cA s) (h2 : cD s = cC s) :
    Calls Tryz.prog 141 #[.string s] w fun e w' => e = .returned (.tuple #[refV 0 0 false false, .int .i64 0, .int .i64 20]) ∧ w' = w.alloc (refO 0 0 false false) := by
  have hs' : s.size ≤ 9223372036854775807 := hs
  obtain ⟨l1, l2, l3, l4⟩ := cut_le s
  have PA := hide (fun w => behindPin_any s 0 w hs (Nat.zero_le _))
  have PB := hide (fun w => behindAll_L s (cA s) w hs (by omega))
  have PC := hide (fun w => behindPin_any s (cB s) w hs (by omega))
  have PD := hide (fun w => behindAll_D s (cC s) w hs (by omega))
  rw [show pinE s 0 = cA s from rfl] at PA
  rw [show runE isL s (cA s) = cB s from rfl] at PB
  rw [show pinE s (cB s) = cC s from rfl] at PC
  rw [show runE dig s (cC s) = cD s from rfl] at PD

  clear hs
  generalize cA s = a at *
  generalize cB s = b at *
  generalize cC s = c at *
  generalize cD s = d at *
  have tba : ((b : Int) == a) = false := by rw [beq_eq_false_iff_ne]; omega
  have tdc : ((d : Int) == c) = true := by rw [beq_iff_eq]; omega
  go_enter Tryz.func141, Tryz.ntmps141
  go_wp2_with fail
  refine (PA.out _).mono ?_
  rintro e w' ⟨rfl, rfl⟩
  go_wp2_with fail
  refine (PB.out _).mono ?_
  rintro e w' ⟨rfl, rfl⟩
  go_wp2_with fail
  refine (PC.out _).mono ?_
  rintro e w' ⟨rfl, rfl⟩
  go_wp2_with fail
  refine (PD.out _).mono ?_
  rintro e w' ⟨rfl, rfl⟩
  go_wp2_with fail
  go_returns
  exact ⟨rfl, rfl⟩

set_option maxHeartbeats 1000000 in
theorem readRef_s3 (s : ByteArray) (w : World) (hs : s.size ≤ maxLen) (h : cB s ≠ cA s) (h2 : cD s ≠ cC s) (hl : cC s < s.size) (h3 : ((s[cC s].toNat : Int) == 48) = true) :
    Calls Tryz.prog 141 #[.string s] w fun e w' => e = .returned (.tuple #[refV 0 0 false false, .int .i64 0, .int .i64 20]) ∧ w' = w.alloc (refO 0 0 false false) := by
  have hs' : s.size ≤ 9223372036854775807 := hs
  obtain ⟨l1, l2, l3, l4⟩ := cut_le s
  have PA := hide (fun w => behindPin_any s 0 w hs (Nat.zero_le _))
  have PB := hide (fun w => behindAll_L s (cA s) w hs (by omega))
  have PC := hide (fun w => behindPin_any s (cB s) w hs (by omega))
  have PD := hide (fun w => behindAll_D s (cC s) w hs (by omega))
  rw [show pinE s 0 = cA s from rfl] at PA
  rw [show runE isL s (cA s) = cB s from rfl] at PB
  rw [show pinE s (cB s) = cC s from rfl] at PC
  rw [show runE dig s (cC s) = cD s from rfl] at PD

  clear hs
  generalize cA s = a at *
  generalize cB s = b at *
  generalize cC s = c at *
  generalize cD s = d at *
  have tba : ((b : Int) == a) = false := by rw [beq_eq_false_iff_ne]; omega
  have tdc : ((d : Int) == c) = false := by rw [beq_eq_false_iff_ne]; omega
  go_enter Tryz.func141, Tryz.ntmps141
  go_wp2_with fail
  refine (PA.out _).mono ?_
  rintro e w' ⟨rfl, rfl⟩
  go_wp2_with fail
  refine (PB.out _).mono ?_
  rintro e w' ⟨rfl, rfl⟩
  go_wp2_with fail
  refine (PC.out _).mono ?_
  rintro e w' ⟨rfl, rfl⟩
  go_wp2_with fail
  refine (PD.out _).mono ?_
  rintro e w' ⟨rfl, rfl⟩
  go_wp2_with fail
  go_returns
  exact ⟨rfl, rfl⟩

set_option maxHeartbeats 1000000 in
theorem readRef_yy (s : ByteArray) (w : World) (hs : s.size ≤ maxLen) (h : cB s ≠ cA s) (h2 : cD s ≠ cC s) (hl : cC s < s.size) (h3 : ((s[cC s].toNat : Int) == 48) = false) (h4 : colS s ≤ 702) (h5 : rowS s ≤ 65536) :
    Calls Tryz.prog 141 #[.string s] w fun e w' => e = .returned (.tuple #[refV ((rowS s : Int) - 1) ((colS s : Int) - 1) (decide (cB s < cC s)) (decide (0 < cA s)), .int .i64 (cD s), .int .i64 0]) ∧ w' = w.alloc (refO ((rowS s : Int) - 1) ((colS s : Int) - 1) (decide (cB s < cC s)) (decide (0 < cA s))) := by
  have hs' : s.size ≤ 9223372036854775807 := hs
  obtain ⟨l1, l2, l3, l4⟩ := cut_le s
  have PA := hide (fun w => behindPin_any s 0 w hs (Nat.zero_le _))
  have PB := hide (fun w => behindAll_L s (cA s) w hs (by omega))
  have PC := hide (fun w => behindPin_any s (cB s) w hs (by omega))
  have PD := hide (fun w => behindAll_D s (cC s) w hs (by omega))
  rw [show pinE s 0 = cA s from rfl] at PA
  rw [show runE isL s (cA s) = cB s from rfl] at PB
  rw [show pinE s (cB s) = cC s from rfl] at PC
  rw [show runE dig s (cC s) = cD s from rfl] at PD
  have z1 : (s.extract (cA s) (cB s)).size ≤ maxLen := by rw [ByteArray.size_extract]; omega
  have z2 : (s.extract (cC s) (cD s)).size ≤ maxLen := by rw [ByteArray.size_extract]; omega
  have PE := hide (fun w => columnOf_yes (s.extract (cA s) (cB s)) w z1 (run_all isL s (cA s)) h4)
  have PF := hide (fun w => rowOf_yes (s.extract (cC s) (cD s)) w z2 (run_all dig s (cC s)) h5)
  rw [show col (s.extract (cA s) (cB s)).data.toList = colS s from rfl] at PE
  rw [show val (s.extract (cC s) (cD s)).data.toList = rowS s from rfl] at PF
  clear z1 z2 h4 h5
  generalize colS s = x at *
  generalize rowS s = y at *
  clear hs
  generalize cA s = a at *
  generalize cB s = b at *
  generalize cC s = c at *
  generalize cD s = d at *
  have tba : ((b : Int) == a) = false := by rw [beq_eq_false_iff_ne]; omega
  have tdc : ((d : Int) == c) = false := by rw [beq_eq_false_iff_ne]; omega
  have j1 : (a : Int) ≤ b := by omega
  have j2 : (c : Int) ≤ d := by omega
  have j3 : (b : Int) ≤ s.size := by omega
  have j4 : (d : Int) ≤ s.size := by omega
  go_enter Tryz.func141, Tryz.ntmps141
  go_wp2_with fail
  refine (PA.out _).mono ?_
  rintro e w' ⟨rfl, rfl⟩
  go_wp2_with fail
  refine (PB.out _).mono ?_
  rintro e w' ⟨rfl, rfl⟩
  go_wp2_with fail
  refine (PC.out _).mono ?_
  rintro e w' ⟨rfl, rfl⟩
  go_wp2_with fail
  refine (PD.out _).mono ?_
  rintro e w' ⟨rfl, rfl⟩
  go_wp2_with fail
  refine (PE.out _).mono ?_
  rintro e w' ⟨rfl, rfl⟩
  go_wp2_with fail
  refine (PF.out _).mono ?_
  rintro e w' ⟨rfl, rfl⟩
  go_wp2_with fail
  go_returns
  exact ⟨by simp, by simp⟩

set_option maxHeartbeats 1000000 in
theorem readRef_yn (s : ByteArray) (w : World) (hs : s.size ≤ maxLen) (h : cB s ≠ cA s) (h2 : cD s ≠ cC s) (hl : cC s < s.size) (h3 : ((s[cC s].toNat : Int) == 48) = false) (h4 : colS s ≤ 702) (h5 : 65536 < rowS s) :
    Calls Tryz.prog 141 #[.string s] w fun e w' => e = .returned (.tuple #[refV 0 0 false false, .int .i64 (cD s), .int .i64 10]) ∧ w' = w.alloc (refO 0 0 false false) := by
  have hs' : s.size ≤ 9223372036854775807 := hs
  obtain ⟨l1, l2, l3, l4⟩ := cut_le s
  have PA := hide (fun w => behindPin_any s 0 w hs (Nat.zero_le _))
  have PB := hide (fun w => behindAll_L s (cA s) w hs (by omega))
  have PC := hide (fun w => behindPin_any s (cB s) w hs (by omega))
  have PD := hide (fun w => behindAll_D s (cC s) w hs (by omega))
  rw [show pinE s 0 = cA s from rfl] at PA
  rw [show runE isL s (cA s) = cB s from rfl] at PB
  rw [show pinE s (cB s) = cC s from rfl] at PC
  rw [show runE dig s (cC s) = cD s from rfl] at PD
  have z1 : (s.extract (cA s) (cB s)).size ≤ maxLen := by rw [ByteArray.size_extract]; omega
  have z2 : (s.extract (cC s) (cD s)).size ≤ maxLen := by rw [ByteArray.size_extract]; omega
  have PE := hide (fun w => columnOf_yes (s.extract (cA s) (cB s)) w z1 (run_all isL s (cA s)) h4)
  have PF := hide (fun w => rowOf_no (s.extract (cC s) (cD s)) w z2 (run_all dig s (cC s)) h5)
  rw [show col (s.extract (cA s) (cB s)).data.toList = colS s from rfl] at PE
  clear z1 z2 h4 h5
  generalize colS s = x at *
  generalize rowS s = y at *
  clear hs
  generalize cA s = a at *
  generalize cB s = b at *
  generalize cC s = c at *
  generalize cD s = d at *
  have tba : ((b : Int) == a) = false := by rw [beq_eq_false_iff_ne]; omega
  have tdc : ((d : Int) == c) = false := by rw [beq_eq_false_iff_ne]; omega
  have j1 : (a : Int) ≤ b := by omega
  have j2 : (c : Int) ≤ d := by omega
  have j3 : (b : Int) ≤ s.size := by omega
  have j4 : (d : Int) ≤ s.size := by omega
  go_enter Tryz.func141, Tryz.ntmps141
  go_wp2_with fail
  refine (PA.out _).mono ?_
  rintro e w' ⟨rfl, rfl⟩
  go_wp2_with fail
  refine (PB.out _).mono ?_
  rintro e w' ⟨rfl, rfl⟩
  go_wp2_with fail
  refine (PC.out _).mono ?_
  rintro e w' ⟨rfl, rfl⟩
  go_wp2_with fail
  refine (PD.out _).mono ?_
  rintro e w' ⟨rfl, rfl⟩
  go_wp2_with fail
  refine (PE.out _).mono ?_
  rintro e w' ⟨rfl, rfl⟩
  go_wp2_with fail
  refine (PF.out _).mono ?_
  rintro e w' ⟨rfl, rfl⟩
  go_wp2_with fail
  go_returns
  exact ⟨by rfl, by rfl⟩

set_option maxHeartbeats 1000000 in
theorem readRef_ny (s : ByteArray) (w : World) (hs : s.size ≤ maxLen) (h : cB s ≠ cA s) (h2 : cD s ≠ cC s) (hl : cC s < s.size) (h3 : ((s[cC s].toNat : Int) == 48) = false) (h4 : 702 < colS s) (h5 : rowS s ≤ 65536) :
    Calls Tryz.prog 141 #[.string s] w fun e w' => e = .returned (.tuple #[refV 0 0 false false, .int .i64 (cD s), .int .i64 10]) ∧ w' = w.alloc (refO 0 0 false false) := by
  have hs' : s.size ≤ 9223372036854775807 := hs
  obtain ⟨l1, l2, l3, l4⟩ := cut_le s
  have PA := hide (fun w => behindPin_any s 0 w hs (Nat.zero_le _))
  have PB := hide (fun w => behindAll_L s (cA s) w hs (by omega))
  have PC := hide (fun w => behindPin_any s (cB s) w hs (by omega))
  have PD := hide (fun w => behindAll_D s (cC s) w hs (by omega))
  rw [show pinE s 0 = cA s from rfl] at PA
  rw [show runE isL s (cA s) = cB s from rfl] at PB
  rw [show pinE s (cB s) = cC s from rfl] at PC
  rw [show runE dig s (cC s) = cD s from rfl] at PD
  have z1 : (s.extract (cA s) (cB s)).size ≤ maxLen := by rw [ByteArray.size_extract]; omega
  have z2 : (s.extract (cC s) (cD s)).size ≤ maxLen := by rw [ByteArray.size_extract]; omega
  have PE := hide (fun w => columnOf_no (s.extract (cA s) (cB s)) w z1 (run_all isL s (cA s)) h4)
  have PF := hide (fun w => rowOf_yes (s.extract (cC s) (cD s)) w z2 (run_all dig s (cC s)) h5)
  rw [show val (s.extract (cC s) (cD s)).data.toList = rowS s from rfl] at PF
  clear z1 z2 h4 h5
  generalize colS s = x at *
  generalize rowS s = y at *
  clear hs
  generalize cA s = a at *
  generalize cB s = b at *
  generalize cC s = c at *
  generalize cD s = d at *
  have tba : ((b : Int) == a) = false := by rw [beq_eq_false_iff_ne]; omega
  have tdc : ((d : Int) == c) = false := by rw [beq_eq_false_iff_ne]; omega
  have j1 : (a : Int) ≤ b := by omega
  have j2 : (c : Int) ≤ d := by omega
  have j3 : (b : Int) ≤ s.size := by omega
  have j4 : (d : Int) ≤ s.size := by omega
  go_enter Tryz.func141, Tryz.ntmps141
  go_wp2_with fail
  refine (PA.out _).mono ?_
  rintro e w' ⟨rfl, rfl⟩
  go_wp2_with fail
  refine (PB.out _).mono ?_
  rintro e w' ⟨rfl, rfl⟩
  go_wp2_with fail
  refine (PC.out _).mono ?_
  rintro e w' ⟨rfl, rfl⟩
  go_wp2_with fail
  refine (PD.out _).mono ?_
  rintro e w' ⟨rfl, rfl⟩
  go_wp2_with fail
  refine (PE.out _).mono ?_
  rintro e w' ⟨rfl, rfl⟩
  go_wp2_with fail
  refine (PF.out _).mono ?_
  rintro e w' ⟨rfl, rfl⟩
  go_wp2_with fail
  go_returns
  exact ⟨by rfl, by rfl⟩

set_option maxHeartbeats 1000000 in
theorem readRef_nn (s : ByteArray) (w : World) (hs : s.size ≤ maxLen) (h : cB s ≠ cA s) (h2 : cD s ≠ cC s) (hl : cC s < s.size) (h3 : ((s[cC s].toNat : Int) == 48) = false) (h4 : 702 < colS s) (h5 : 65536 < rowS s) :
    Calls Tryz.prog 141 #[.string s] w fun e w' => e = .returned (.tuple #[refV 0 0 false false, .int .i64 (cD s), .int .i64 10]) ∧ w' = w.alloc (refO 0 0 false false) := by
  have hs' : s.size ≤ 9223372036854775807 := hs
  obtain ⟨l1, l2, l3, l4⟩ := cut_le s
  have PA := hide (fun w => behindPin_any s 0 w hs (Nat.zero_le _))
  have PB := hide (fun w => behindAll_L s (cA s) w hs (by omega))
  have PC := hide (fun w => behindPin_any s (cB s) w hs (by omega))
  have PD := hide (fun w => behindAll_D s (cC s) w hs (by omega))
  rw [show pinE s 0 = cA s from rfl] at PA
  rw [show runE isL s (cA s) = cB s from rfl] at PB
  rw [show pinE s (cB s) = cC s from rfl] at PC
  rw [show runE dig s (cC s) = cD s from rfl] at PD
  have z1 : (s.extract (cA s) (cB s)).size ≤ maxLen := by rw [ByteArray.size_extract]; omega
  have z2 : (s.extract (cC s) (cD s)).size ≤ maxLen := by rw [ByteArray.size_extract]; omega
  have PE := hide (fun w => columnOf_no (s.extract (cA s) (cB s)) w z1 (run_all isL s (cA s)) h4)
  have PF := hide (fun w => rowOf_no (s.extract (cC s) (cD s)) w z2 (run_all dig s (cC s)) h5)
  clear z1 z2 h4 h5
  generalize colS s = x at *
  generalize rowS s = y at *
  clear hs
  generalize cA s = a at *
  generalize cB s = b at *
  generalize cC s = c at *
  generalize cD s = d at *
  have tba : ((b : Int) == a) = false := by rw [beq_eq_false_iff_ne]; omega
  have tdc : ((d : Int) == c) = false := by rw [beq_eq_false_iff_ne]; omega
  have j1 : (a : Int) ≤ b := by omega
  have j2 : (c : Int) ≤ d := by omega
  have j3 : (b : Int) ≤ s.size := by omega
  have j4 : (d : Int) ≤ s.size := by omega
  go_enter Tryz.func141, Tryz.ntmps141
  go_wp2_with fail
  refine (PA.out _).mono ?_
  rintro e w' ⟨rfl, rfl⟩
  go_wp2_with fail
  refine (PB.out _).mono ?_
  rintro e w' ⟨rfl, rfl⟩
  go_wp2_with fail
  refine (PC.out _).mono ?_
  rintro e w' ⟨rfl, rfl⟩
  go_wp2_with fail
  refine (PD.out _).mono ?_
  rintro e w' ⟨rfl, rfl⟩
  go_wp2_with fail
  refine (PE.out _).mono ?_
  rintro e w' ⟨rfl, rfl⟩
  go_wp2_with fail
  refine (PF.out _).mono ?_
  rintro e w' ⟨rfl, rfl⟩
  go_wp2_with fail
  go_returns
  exact ⟨by rfl, by rfl⟩

theorem readRef_any (s : ByteArray) (w : World) (hs : s.size ≤ maxLen) :
    Calls Tryz.prog 141 #[.string s] w fun e w' => e = .returned (.tuple #[refV (rR s) (rC s) (rP s) (rQ s), .int .i64 (rN s), .int .i64 (rE s)]) ∧ w' = w.alloc (refO (rR s) (rC s) (rP s) (rQ s)) := by
  obtain ⟨l1, l2, l3, l4⟩ := cut_le s
  have hsyn : synS s = true → rR s = 0 ∧ rC s = 0 ∧ rP s = false ∧ rQ s = false ∧ rN s = 0 ∧ rE s = 20 := fun h => by
    unfold rR rC rP rQ rN rE; rw [h]; exact ⟨rfl, rfl, rfl, rfl, rfl, rfl⟩
  by_cases h : cB s = cA s
  · obtain ⟨e1, e2, e3, e4, e5, e6⟩ := hsyn (by unfold synS; rw [h]; simp)
    rw [e1, e2, e3, e4, e5, e6]
    exact readRef_s1 s w hs h
  by_cases h2 : cD s = cC s
  · obtain ⟨e1, e2, e3, e4, e5, e6⟩ := hsyn (by unfold synS; rw [h2]; simp)
    rw [e1, e2, e3, e4, e5, e6]
    exact readRef_s2 s w hs h h2
  have hl : cC s < s.size := by omega
  have hz := lead0_at s (cC s) hl
  cases h3 : ((s[cC s].toNat : Int) == 48)
  · have hy : synS s = false := by unfold synS; rw [hz, h3]; simp [h, h2]
    by_cases h4 : colS s ≤ 702
    · by_cases h5 : rowS s ≤ 65536
      · have ho : offS s = false := by unfold offS; simp; omega
        have := readRef_yy s w hs h h2 hl h3 h4 h5
        unfold rR rC rP rQ rN rE
        rw [hy, ho]
        simpa using this
      · have ho : offS s = true := by unfold offS; simp; omega
        have := readRef_yn s w hs h h2 hl h3 h4 (by omega)
        unfold rR rC rP rQ rN rE
        rw [hy, ho]
        simpa using this
    · by_cases h5 : rowS s ≤ 65536
      · have ho : offS s = true := by unfold offS; simp; omega
        have := readRef_ny s w hs h h2 hl h3 (by omega) h5
        unfold rR rC rP rQ rN rE
        rw [hy, ho]
        simpa using this
      · have ho : offS s = true := by unfold offS; simp; omega
        have := readRef_nn s w hs h h2 hl h3 (by omega) (by omega)
        unfold rR rC rP rQ rN rE
        rw [hy, ho]
        simpa using this
  · obtain ⟨e1, e2, e3, e4, e5, e6⟩ := hsyn (by unfold synS; rw [hz, h3]; simp)
    rw [e1, e2, e3, e4, e5, e6]
    exact readRef_s3 s w hs h h2 hl h3
end Go.Proofs.YtdlomdbmmhjppaaGreatDoor
namespace Go.Proofs.YtdlomdbmmhjppaaGreatDoor
open Go.RowKit
set_option linter.unusedVariables false

/-- A text that is no place's. -/
def rdBad (s : ByteArray) : Bool := rE s == 20 || (rN s != s.size || !plainL s.data.toList)
theorem rE_cases (s : ByteArray) : rE s = 20 ∨ rE s = 10 ∨ rE s = 0 := by unfold rE; split; exact .inl rfl; split; exact .inr (.inl rfl); exact .inr (.inr rfl)
theorem rN_le (s : ByteArray) : rN s ≤ s.size := by unfold rN; split; omega; exact (cut_le s).2.2.2
theorem below_drewN {B : Nat} {a w : World} (h : Below B a w) (n : Nat) : Below B a (w.drewN n) := ⟨h.os, h.tape, h.output, h.size, h.block⟩
theorem prod_bound (x y : Int) (hx : 0 ≤ x) (hx' : x ≤ 65536) (hy : 0 ≤ y) (hy' : y ≤ 702) : 0 ≤ x * y ∧ x * y ≤ 46006272 :=
  ⟨Int.mul_nonneg hx hy, Int.le_trans (Int.mul_le_mul hx' hy' hy (by decide)) (by decide)⟩
end Go.Proofs.YtdlomdbmmhjppaaGreatDoor
