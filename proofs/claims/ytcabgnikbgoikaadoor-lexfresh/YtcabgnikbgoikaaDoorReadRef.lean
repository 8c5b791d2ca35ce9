/- What spot.ReadRef answers, for every text: the reference that the text begins with, how many bytes it has, and whether there is one: proved of the Go text. -/
import Derived.Test.YtcabgnikbgoikaaDoorRuns
import Derived.Test.YtcabgnikbgoikaaDoorPlaces
import Derived.Handy
namespace Go.Proofs.YtcabgnikbgoikaaDoor
open Go.RowKit
set_option linter.unusedVariables false

/-- Where the parts of the reference that a text may begin with end. -/
def cA (s : ByteArray) : Nat := pinE s 0
def cB (s : ByteArray) : Nat := runE isL s (cA s)
def cC (s : ByteArray) : Nat := pinE s (cB s)
def cD (s : ByteArray) : Nat := runE dig s (cC s)
def lead0 : List UInt8 → Bool
  | [] => false
  | c :: _ => c == 48
/-- It begins with none. -/
def synS (s : ByteArray) : Bool := cB s == cA s || cD s == cC s || lead0 (s.data.toList.drop (cC s))
def colS (s : ByteArray) : Nat := col (s.extract (cA s) (cB s)).data.toList
def rowS (s : ByteArray) : Nat := val (s.extract (cC s) (cD s)).data.toList
def offS (s : ByteArray) : Bool := decide (702 < colS s) || decide (65536 < rowS s)
/-- What is answered: error, bytes, row, column, pins. -/
def rE (s : ByteArray) : Int := if synS s then 20 else if offS s then 10 else 0
def rN (s : ByteArray) : Nat := if synS s then 0 else cD s
def rR (s : ByteArray) : Int := if synS s || offS s then 0 else (rowS s : Int) - 1
def rC (s : ByteArray) : Int := if synS s || offS s then 0 else (colS s : Int) - 1
def rP (s : ByteArray) : Bool := !(synS s || offS s) && decide (cB s < cC s)
def rQ (s : ByteArray) : Bool := !(synS s || offS s) && decide (0 < cA s)

theorem cut_le (s : ByteArray) : cA s ≤ cB s ∧ cB s ≤ cC s ∧ cC s ≤ cD s ∧ cD s ≤ s.size := by
  have h1 : cA s ≤ s.size := pinE_le s 0 (Nat.zero_le _)
  have h2 : cB s ≤ s.size := runE_le _ s _ h1
  have h3 : cC s ≤ s.size := pinE_le s _ h2
  exact ⟨runE_ge _ _ _, pinE_ge _ _, runE_ge _ _ _, runE_le _ s _ h3⟩
theorem lead0_at (s : ByteArray) (c : Nat) (h : c < s.size) : lead0 (s.data.toList.drop c) = ((s[c].toNat : Int) == 48) := by
  rw [drop_cons s c h, eq_48]; rfl
theorem ret_ref {a b c d e f : Int} {p q r t : Bool} {n m : Int} (h1 : a = b) (h2 : c = d) (h3 : p = q) (h4 : r = t) (h5 : n = m) (h6 : e = f) :
    Ending.returned (.tuple #[refV a c p r, .int .i64 n, .int .i64 e]) = .returned (.tuple #[refV b d q t, .int .i64 m, .int .i64 f]) := by rw [h1, h2, h3, h4, h5, h6]

set_option maxHeartbeats 1000000 in
theorem readRef_s1 (s : ByteArray) (w : World) (hs : s.size ≤ maxLen) (h : cB s = cA s) :
    Calls Tryd.prog 54 #[.string s] w fun e w' => e = .returned (.tuple #[refV 0 0 false false, .int .i64 0, .int .i64 20]) ∧ w' = w.alloc (refO 0 0 false false) := by
  have hs' : s.size ≤ 9223372036854775807 := hs
  obtain ⟨l1, l2, l3, l4⟩ := cut_le s
  have PA := hide (fun w => behindPin_any s 0 w hs (Nat.zero_le _))
  have PB := hide (fun w => behindAll_L s (cA s) w hs (by omega))
  have PC := hide (fun w => behindPin_any s (cB s) w hs (by omega))
  have PD := hide (fun w => behindAll_D s (cC s) w hs (by omega))
  rw [show pinE s 0 = cA s from rfl] at PA
  rw [show runE isL s (cA s) = cB s from rfl] at PB
  rw [show pinE s (cB s) = cC s from rfl] at PC
  rw [show runE dig s (cC s) = cD s from rfl] at PD

  clear hs
  generalize cA s = a at *
  generalize cB s = b at *
  generalize cC s = c at *
  generalize cD s = d at *
  subst h
  go_enter Tryd.func54, Tryd.ntmps54
  go_wp2_with fail
  refine (PA.out _).mono ?_
  rintro e w' ⟨rfl, rfl⟩
  go_wp2_with fail
  refine (PB.out _).mono ?_
  rintro e w' ⟨rfl, rfl⟩
  go_wp2_with fail
  refine (PC.out _).mono ?_
  rintro e w' ⟨rfl, rfl⟩
  go_wp2_with fail
  refine (PD.out _).mono ?_
  rintro e w' ⟨rfl, rfl⟩
  go_wp2_with fail
  go_returns
  exact ⟨rfl, rfl⟩

set_option maxHeartbeats 1000000 in
theorem readRef_s2 (s : ByteArray) (w : World) (hs : s.size ≤ maxLen) (h : cB s ≠ cA s) (h2 : cD s = cC s) :
    Calls Tryd.prog 54 #[.string s] w fun e w' => e = .returned (.tuple #[refV 0 0 false false, .int .i64 0, .int .i64 20]) ∧ w' = w.alloc (refO 0 0 false false) := by
  have hs' : s.size ≤ 9223372036854775807 := hs
  obtain ⟨l1, l2, l3, l4⟩ := cut_le s
  have PA := hide (fun w => behindPin_any s 0 w hs (Nat.zero_le _))
  have PB := hide (fun w => behindAll_L s (cA s) w hs (by omega))
  have PC := hide (fun w => behindPin_any s (cB s) w hs (by omega))
  have PD := hide (fun w => behindAll_D s (cC s) w hs (by omega))
  rw [show pinE s 0 = cA s from rfl] at PA
  rw [show runE isL s (cA s) = cB s from rfl] at PB
  rw [show pinE s (cB s) = cC s from rfl] at PC
  rw [show runE dig s (cC s) = cD s from rfl] at PD

  clear hs
  generalize cA s = a at *
  generalize cB s = b at *
  generalize cC s = c at *
  generalize cD s = d at *
  have tba : ((b : Int) == a) = false := by rw [beq_eq_false_iff_ne]; omega
  have tdc : ((d : Int) == c) = true := by rw [beq_iff_eq]; omega
  go_enter Tryd.func54, Tryd.ntmps54
  go_wp2_with fail
  refine (PA.out _).mono ?_
  rintro e w' ⟨rfl, rfl⟩
  go_wp2_with fail
  refine (PB.out _).mono ?_
  rintro e w' ⟨rfl, rfl⟩
  go_wp2_with fail
  refine (PC.out _).mono ?_
  rintro e w' ⟨rfl, rfl⟩
  go_wp2_with fail
  refine (PD.out _).mono ?_
  rintro e w' ⟨rfl, rfl⟩
  go_wp2_with fail
  go_returns
  exact ⟨rfl, rfl⟩

set_option maxHeartbeats 1000000 in
theorem readRef_s3 (s : ByteArray) (w : World) (hs : s.size ≤ maxLen) (h : cB s ≠ cA s) (h2 : cD s ≠ cC s) (hl : cC s < s.size) (h3 : ((s[cC s].toNat : Int) == 48) = true) :
    Calls Tryd.prog 54 #[.string s] w fun e w' => e = .returned (.tuple #[refV 0 0 false false, .int .i64 0, .int .i64 20]) ∧ w' = w.alloc (refO 0 0 false false) := by
  have hs' : s.size ≤ 9223372036854775807 := hs
  obtain ⟨l1, l2, l3, l4⟩ := cut_le s
  have PA := hide (fun w => behindPin_any s 0 w hs (Nat.zero_le _))
  have PB := hide (fun w => behindAll_L s (cA s) w hs (by omega))
  have PC := hide (fun w => behindPin_any s (cB s) w hs (by omega))
  have PD := hide (fun w => behindAll_D s (cC s) w hs (by omega))
  rw [show pinE s 0 = cA s from rfl] at PA
  rw [show runE isL s (cA s) = cB s from rfl] at PB
  rw [show pinE s (cB s) = cC s from rfl] at PC
  rw [show runE dig s (cC s) = cD s from rfl] at PD

  clear hs
  generalize cA s = a at *
  generalize cB s = b at *
  generalize cC s = c at *
  generalize cD s = d at *
  have tba : ((b : Int) == a) = false := by rw [beq_eq_false_iff_ne]; omega
  have tdc : ((d : Int) == c) = false := by rw [beq_eq_false_iff_ne]; omega
  go_enter Tryd.func54, Tryd.ntmps54
  go_wp2_with fail
  refine (PA.out _).mono ?_
  rintro e w' ⟨rfl, rfl⟩
  go_wp2_with fail
  refine (PB.out _).mono ?_
  rintro e w' ⟨rfl, rfl⟩
  go_wp2_with fail
  refine (PC.out _).mono ?_
  rintro e w' ⟨rfl, rfl⟩
  go_wp2_with fail
  refine (PD.out _).mono ?_
  rintro e w' ⟨rfl, rfl⟩
  go_wp2_with fail
  go_returns
  exact ⟨rfl, rfl⟩

set_option maxHeartbeats 1000000 in
theorem readRef_yy (s : ByteArray) (w : World) (hs : s.size ≤ maxLen) (h : cB s ≠ cA s) (h2 : cD s ≠ cC s) (hl : cC s < s.size) (h3 : ((s[cC s].toNat : Int) == 48) = false) (h4 : colS s ≤ 702) (h5 : rowS s ≤ 65536) :
    Calls Tryd.prog 54 #[.string s] w fun e w' => e = .returned (.tuple #[refV ((rowS s : Int) - 1) ((colS s : Int) - 1) (decide (cB s < cC s)) (decide (0 < cA s)), .int .i64 (cD s), .int .i64 0]) ∧ w' = w.alloc (refO ((rowS s : Int) - 1) ((colS s : Int) - 1) (decide (cB s < cC s)) (decide (0 < cA s))) := by
  have hs' : s.size ≤ 9223372036854775807 := hs
  obtain ⟨l1, l2, l3, l4⟩ := cut_le s
  have PA := hide (fun w => behindPin_any s 0 w hs (Nat.zero_le _))
  have PB := hide (fun w => behindAll_L s (cA s) w hs (by omega))
  have PC := hide (fun w => behindPin_any s (cB s) w hs (by omega))
  have PD := hide (fun w => behindAll_D s (cC s) w hs (by omega))
  rw [show pinE s 0 = cA s from rfl] at PA
  rw [show runE isL s (cA s) = cB s from rfl] at PB
  rw [show pinE s (cB s) = cC s from rfl] at PC
  rw [show runE dig s (cC s) = cD s from rfl] at PD
  have z1 : (s.extract (cA s) (cB s)).size ≤ maxLen := by rw [ByteArray.size_extract]; omega
  have z2 : (s.extract (cC s) (cD s)).size ≤ maxLen := by rw [ByteArray.size_extract]; omega
  have PE := hide (fun w => columnOf_yes (s.extract (cA s) (cB s)) w z1 (run_all isL s (cA s)) h4)
  have PF := hide (fun w => rowOf_yes (s.extract (cC s) (cD s)) w z2 (run_all dig s (cC s)) h5)
  rw [show col (s.extract (cA s) (cB s)).data.toList = colS s from rfl] at PE
  rw [show val (s.extract (cC s) (cD s)).data.toList = rowS s from rfl] at PF
  clear z1 z2 h4 h5
  generalize colS s = x at *
  generalize rowS s = y at *
  clear hs
  generalize cA s = a at *
  generalize cB s = b at *
  generalize cC s = c at *
  generalize cD s = d at *
  have tba : ((b : Int) == a) = false := by rw [beq_eq_false_iff_ne]; omega
  have tdc : ((d : Int) == c) = false := by rw [beq_eq_false_iff_ne]; omega
  have j1 : (a : Int) ≤ b := by omega
  have j2 : (c : Int) ≤ d := by omega
  have j3 : (b : Int) ≤ s.size := by omega
  have j4 : (d : Int) ≤ s.size := by omega
  go_enter Tryd.func54, Tryd.ntmps54
  go_wp2_with fail
  refine (PA.out _).mono ?_
  rintro e w' ⟨rfl, rfl⟩
  go_wp2_with fail
  refine (PB.out _).mono ?_
  rintro e w' ⟨rfl, rfl⟩
  go_wp2_with fail
  refine (PC.out _).mono ?_
  rintro e w' ⟨rfl, rfl⟩
  go_wp2_with fail
  refine (PD.out _).mono ?_
  rintro e w' ⟨rfl, rfl⟩
  go_wp2_with fail
  refine (PE.out _).mono ?_
  rintro e w' ⟨rfl, rfl⟩
  go_wp2_with fail
  refine (PF.out _).mono ?_
  rintro e w' ⟨rfl, rfl⟩
  go_wp2_with fail
  go_returns
  exact ⟨by simp, by simp⟩

set_option maxHeartbeats 1000000 in
theorem readRef_yn (s : ByteArray) (w : World) (hs : s.size ≤ maxLen) (h : cB s ≠ cA s) (h2 : cD s ≠ cC s) (hl : cC s < s.size) (h3 : ((s[cC s].toNat : Int) == 48) = false) (h4 : colS s ≤ 702) (h5 : 65536 < rowS s) :
    Calls Tryd.prog 54 #[.string s] w fun e w' => e = .returned (.tuple #[refV 0 0 false false, .int .i64 (cD s), .int .i64 10]) ∧ w' = w.alloc (refO 0 0 false false) := by
  have hs' : s.size ≤ 9223372036854775807 := hs
  obtain ⟨l1, l2, l3, l4⟩ := cut_le s
  have PA := hide (fun w => behindPin_any s 0 w hs (Nat.zero_le _))
  have PB := hide (fun w => behindAll_L s (cA s) w hs (by omega))
  have PC := hide (fun w => behindPin_any s (cB s) w hs (by omega))
  have PD := hide (fun w => behindAll_D s (cC s) w hs (by omega))
  rw [show pinE s 0 = cA s from rfl] at PA
  rw [show runE isL s (cA s) = cB s from rfl] at PB
  rw [show pinE s (cB s) = cC s from rfl] at PC
  rw [show runE dig s (cC s) = cD s from rfl] at PD
  have z1 : (s.extract (cA s) (cB s)).size ≤ maxLen := by rw [ByteArray.size_extract]; omega
  have z2 : (s.extract (cC s) (cD s)).size ≤ maxLen := by rw [ByteArray.size_extract]; omega
  have PE := hide (fun w => columnOf_yes (s.extract (cA s) (cB s)) w z1 (run_all isL s (cA s)) h4)
  have PF := hide (fun w => rowOf_no (s.extract (cC s) (cD s)) w z2 (run_all dig s (cC s)) h5)
  rw [show col (s.extract (cA s) (cB s)).data.toList = colS s from rfl] at PE
  clear z1 z2 h4 h5
  generalize colS s = x at *
  generalize rowS s = y at *
  clear hs
  generalize cA s = a at *
  generalize cB s = b at *
  generalize cC s = c at *
  generalize cD s = d at *
  have tba : ((b : Int) == a) = false := by rw [beq_eq_false_iff_ne]; omega
  have tdc : ((d : Int) == c) = false := by rw [beq_eq_false_iff_ne]; omega
  have j1 : (a : Int) ≤ b := by omega
  have j2 : (c : Int) ≤ d := by omega
  have j3 : (b : Int) ≤ s.size := by omega
  have j4 : (d : Int) ≤ s.size := by omega
  go_enter Tryd.func54, Tryd.ntmps54
  go_wp2_with fail
  refine (PA.out _).mono ?_
  rintro e w' ⟨rfl, rfl⟩
  go_wp2_with fail
  refine (PB.out _).mono ?_
  rintro e w' ⟨rfl, rfl⟩
  go_wp2_with fail
  refine (PC.out _).mono ?_
  rintro e w' ⟨rfl, rfl⟩
  go_wp2_with fail
  refine (PD.out _).mono ?_
  rintro e w' ⟨rfl, rfl⟩
  go_wp2_with fail
  refine (PE.out _).mono ?_
  rintro e w' ⟨rfl, rfl⟩
  go_wp2_with fail
  refine (PF.out _).mono ?_
  rintro e w' ⟨rfl, rfl⟩
  go_wp2_with fail
  go_returns
  exact ⟨by rfl, by rfl⟩

set_option maxHeartbeats 1000000 in
theorem readRef_ny (s : ByteArray) (w : World) (hs : s.size ≤ maxLen) (h : cB s ≠ cA s) (h2 : cD s ≠ cC s) (hl : cC s < s.size) (h3 : ((s[cC s].toNat : Int) == 48) = false) (h4 : 702 < colS s) (h5 : rowS s ≤ 65536) :
    Calls Tryd.prog 54 #[.string s] w fun e w' => e = .returned (.tuple #[refV 0 0 false false, .int .i64 (cD s), .int .i64 10]) ∧ w' = w.alloc (refO 0 0 false false) := by
  have hs' : s.size ≤ 9223372036854775807 := hs
  obtain ⟨l1, l2, l3, l4⟩ := cut_le s
  have PA := hide (fun w => behindPin_any s 0 w hs (Nat.zero_le _))
  have PB := hide (fun w => behindAll_L s (cA s) w hs (by omega))
  have PC := hide (fun w => behindPin_any s (cB s) w hs (by omega))
  have PD := hide (fun w => behindAll_D s (cC s) w hs (by omega))
  rw [show pinE s 0 = cA s from rfl] at PA
  rw [show runE isL s (cA s) = cB s from rfl] at PB
  rw [show pinE s (cB s) = cC s from rfl] at PC
  rw [show runE dig s (cC s) = cD s from rfl] at PD
  have z1 : (s.extract (cA s) (cB s)).size ≤ maxLen := by rw [ByteArray.size_extract]; omega
  have z2 : (s.extract (cC s) (cD s)).size ≤ maxLen := by rw [ByteArray.size_extract]; omega
  have PE := hide (fun w => columnOf_no (s.extract (cA s) (cB s)) w z1 (run_all isL s (cA s)) h4)
  have PF := hide (fun w => rowOf_yes (s.extract (cC s) (cD s)) w z2 (run_all dig s (cC s)) h5)
  rw [show val (s.extract (cC s) (cD s)).data.toList = rowS s from rfl] at PF
  clear z1 z2 h4 h5
  generalize colS s = x at *
  generalize rowS s = y at *
  clear hs
  generalize cA s = a at *
  generalize cB s = b at *
  generalize cC s = c at *
  generalize cD s = d at *
  have tba : ((b : Int) == a) = false := by rw [beq_eq_false_iff_ne]; omega
  have tdc : ((d : Int) == c) = false := by rw [beq_eq_false_iff_ne]; omega
  have j1 : (a : Int) ≤ b := by omega
  have j2 : (c : Int) ≤ d := by omega
  have j3 : (b : Int) ≤ s.size := by omega
  have j4 : (d : Int) ≤ s.size := by omega
  go_enter Tryd.func54, Tryd.ntmps54
  go_wp2_with fail
  refine (PA.out _).mono ?_
  rintro e w' ⟨rfl, rfl⟩
  go_wp2_with fail
  refine (PB.out _).mono ?_
  rintro e w' ⟨rfl, rfl⟩
  go_wp2_with fail
  refine (PC.out _).mono ?_
  rintro e w' ⟨rfl, rfl⟩
  go_wp2_with fail
  refine (PD.out _).mono ?_
  rintro e w' ⟨rfl, rfl⟩
  go_wp2_with fail
  refine (PE.out _).mono ?_
  rintro e w' ⟨rfl, rfl⟩
  go_wp2_with fail
  refine (PF.out _).mono ?_
  rintro e w' ⟨rfl, rfl⟩
  go_wp2_with fail
  go_returns
  exact ⟨by rfl, by rfl⟩

set_option maxHeartbeats 1000000 in
theorem readRef_nn (s : ByteArray) (w : World) (hs : s.size ≤ maxLen) (h : cB s ≠ cA s) (h2 : cD s ≠ cC s) (hl : cC s < s.size) (h3 : ((s[cC s].toNat : Int) == 48) = false) (h4 : 702 < colS s) (h5 : 65536 < rowS s) :
    Calls Tryd.prog 54 #[.string s] w fun e w' => e = .returned (.tuple #[refV 0 0 false false, .int .i64 (cD s), .int .i64 10]) ∧ w' = w.alloc (refO 0 0 false false) := by
  have hs' : s.size ≤ 9223372036854775807 := hs
  obtain ⟨l1, l2, l3, l4⟩ := cut_le s
  have PA := hide (fun w => behindPin_any s 0 w hs (Nat.zero_le _))
  have PB := hide (fun w => behindAll_L s (cA s) w hs (by omega))
  have PC := hide (fun w => behindPin_any s (cB s) w hs (by omega))
  have PD := hide (fun w => behindAll_D s (cC s) w hs (by omega))
  rw [show pinE s 0 = cA s from rfl] at PA
  rw [show runE isL s (cA s) = cB s from rfl] at PB
  rw [show pinE s (cB s) = cC s from rfl] at PC
  rw [show runE dig s (cC s) = cD s from rfl] at PD
  have z1 : (s.extract (cA s) (cB s)).size ≤ maxLen := by rw [ByteArray.size_extract]; omega
  have z2 : (s.extract (cC s) (cD s)).size ≤ maxLen := by rw [ByteArray.size_extract]; omega
  have PE := hide (fun w => columnOf_no (s.extract (cA s) (cB s)) w z1 (run_all isL s (cA s)) h4)
  have PF := hide (fun w => rowOf_no (s.extract (cC s) (cD s)) w z2 (run_all dig s (cC s)) h5)
  clear z1 z2 h4 h5
  generalize colS s = x at *
  generalize rowS s = y at *
  clear hs
  generalize cA s = a at *
  generalize cB s = b at *
  generalize cC s = c at *
  generalize cD s = d at *
  have tba : ((b : Int) == a) = false := by rw [beq_eq_false_iff_ne]; omega
  have tdc : ((d : Int) == c) = false := by rw [beq_eq_false_iff_ne]; omega
  have j1 : (a : Int) ≤ b := by omega
  have j2 : (c : Int) ≤ d := by omega
  have j3 : (b : Int) ≤ s.size := by omega
  have j4 : (d : Int) ≤ s.size := by omega
  go_enter Tryd.func54, Tryd.ntmps54
  go_wp2_with fail
  refine (PA.out _).mono ?_
  rintro e w' ⟨rfl, rfl⟩
  go_wp2_with fail
  refine (PB.out _).mono ?_
  rintro e w' ⟨rfl, rfl⟩
  go_wp2_with fail
  refine (PC.out _).mono ?_
  rintro e w' ⟨rfl, rfl⟩
  go_wp2_with fail
  refine (PD.out _).mono ?_
  rintro e w' ⟨rfl, rfl⟩
  go_wp2_with fail
  refine (PE.out _).mono ?_
  rintro e w' ⟨rfl, rfl⟩
  go_wp2_with fail
  refine (PF.out _).mono ?_
  rintro e w' ⟨rfl, rfl⟩
  go_wp2_with fail
  go_returns
  exact ⟨by rfl, by rfl⟩

theorem readRef_any (s : ByteArray) (w : World) (hs : s.size ≤ maxLen) :
    Calls Tryd.prog 54 #[.string s] w fun e w' => e = .returned (.tuple #[refV (rR s) (rC s) (rP s) (rQ s), .int .i64 (rN s), .int .i64 (rE s)]) ∧ w' = w.alloc (refO (rR s) (rC s) (rP s) (rQ s)) := by
  obtain ⟨l1, l2, l3, l4⟩ := cut_le s
  have hsyn : synS s = true → rR s = 0 ∧ rC s = 0 ∧ rP s = false ∧ rQ s = false ∧ rN s = 0 ∧ rE s = 20 := fun h => by
    unfold rR rC rP rQ rN rE; rw [h]; exact ⟨rfl, rfl, rfl, rfl, rfl, rfl⟩
  by_cases h : cB s = cA s
  · obtain ⟨e1, e2, e3, e4, e5, e6⟩ := hsyn (by unfold synS; rw [h]; simp)
    rw [e1, e2, e3, e4, e5, e6]
    exact readRef_s1 s w hs h
  by_cases h2 : cD s = cC s
  · obtain ⟨e1, e2, e3, e4, e5, e6⟩ := hsyn (by unfold synS; rw [h2]; simp)
    rw [e1, e2, e3, e4, e5, e6]
    exact readRef_s2 s w hs h h2
  have hl : cC s < s.size := by omega
  have hz := lead0_at s (cC s) hl
  cases h3 : ((s[cC s].toNat : Int) == 48)
  · have hy : synS s = false := by unfold synS; rw [hz, h3]; simp [h, h2]
    by_cases h4 : colS s ≤ 702
    · by_cases h5 : rowS s ≤ 65536
      · have ho : offS s = false := by unfold offS; simp; omega
        have := readRef_yy s w hs h h2 hl h3 h4 h5
        unfold rR rC rP rQ rN rE
        rw [hy, ho]
        simpa using this
      · have ho : offS s = true := by unfold offS; simp; omega
        have := readRef_yn s w hs h h2 hl h3 h4 (by omega)
        unfold rR rC rP rQ rN rE
        rw [hy, ho]
        simpa using this
    · by_cases h5 : rowS s ≤ 65536
      · have ho : offS s = true := by unfold offS; simp; omega
        have := readRef_ny s w hs h h2 hl h3 (by omega) h5
        unfold rR rC rP rQ rN rE
        rw [hy, ho]
        simpa using this
      · have ho : offS s = true := by unfold offS; simp; omega
        have := readRef_nn s w hs h h2 hl h3 (by omega) (by omega)
        unfold rR rC rP rQ rN rE
        rw [hy, ho]
        simpa using this
  · obtain ⟨e1, e2, e3, e4, e5, e6⟩ := hsyn (by unfold synS; rw [hz, h3]; simp)
    rw [e1, e2, e3, e4, e5, e6]
    exact readRef_s3 s w hs h h2 hl h3
end Go.Proofs.YtcabgnikbgoikaaDoor
