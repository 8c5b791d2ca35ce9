/- Plain facts on whole numbers, on which the walks of package whole stand: no Go in sight. Plain facts on texts of digits: which texts are a number's one form, and which number; no Go in sight. Package whole's checked sums (Add, Sub, Mul at int32, int64 and two types of one's own) answer the exact result where it fits, else 0 and false: proved of the Go text for all operands of their kind. whole.Read answers the number of a text in its one form, ErrNumber for any other text, ErrOver for a number beyond 64 bits: proved of the Go text for every text. -/
import Derived.WalkKit
import Derived.Lib.Strings
import Derived.Lib.ItoaNum
import Derived.Test.YtgnmkhjilecdhaaGreatDoorRows
import Derived.WalkSpells
import Derived.WalkLawsBesides
namespace Go.Proofs.YtgnmkhjilecdhaaGreatDoor
open Go.RowKit

theorem ret_two {k : IntKind} {a b : Int} {c d : Bool} (h : a = b) (h' : c = d) : Ending.returned (.tuple #[.int k a, .bool c]) = .returned (.tuple #[.int k b, .bool d]) := by rw [h, h']

theorem ret_ii {k j : IntKind} {a b c d : Int} (h : a = b) (h' : c = d) : Ending.returned (.tuple #[.int k a, .int j c]) = .returned (.tuple #[.int k b, .int j d]) := by rw [h, h']
theorem ret_bool {a b : Bool} (h : a = b) : Ending.returned (.bool a) = .returned (.bool b) := by rw [h]

theorem mul_sign (a b : Int) (ha : a ≠ 0) (hb : b ≠ 0) : (decide (a * b < 0)) = (!(decide (a < 0) == decide (b < 0))) := by
  rw [Bool.eq_iff_iff]
  simp only [decide_eq_true_eq, Bool.not_eq_true', beq_eq_false_iff_ne, ne_eq, decide_eq_decide]
  rcases Int.lt_or_gt_of_ne ha with h1 | h1 <;> rcases Int.lt_or_gt_of_ne hb with h2 | h2
  · have := Int.mul_pos_of_neg_of_neg h1 h2; omega
  · have := Int.mul_neg_of_neg_of_pos h1 h2; omega
  · have := Int.mul_neg_of_pos_of_neg h1 h2; omega
  · have := Int.mul_pos h1 h2; omega

theorem mul_over64 (a b : Int) (ha : -9223372036854775808 ≤ a) (ha' : a ≤ 9223372036854775807) (hb : -9223372036854775808 ≤ b) (hb' : b ≤ 9223372036854775807) (zb : b ≠ 0) (h : a * b < -9223372036854775808 ∨ 9223372036854775807 < a * b)
    (hs : decide (wrap64 (a * b) < 0) = (!(decide (a < 0) == decide (b < 0)))) (hq : (wrap64 ((wrap64 (a * b)).tdiv b) != a) = false) : False := by
  have hq' : wrap64 ((wrap64 (a * b)).tdiv b) = a := by simpa using hq
  clear hq
  have hc : b * a = a * b := Int.mul_comm b a
  generalize a * b = x at *
  obtain ⟨p, hp⟩ : ∃ p, p = wrap64 x := ⟨_, rfl⟩
  rw [← hp] at hs hq'
  have hpb : -9223372036854775808 ≤ p ∧ p ≤ 9223372036854775807 ∧ ∃ k : Int, p = x + k * 18446744073709551616 := by
    rw [hp]; unfold wrap64
    refine ⟨by omega, by omega, -((x + 9223372036854775808) / 18446744073709551616), ?_⟩
    omega
  clear hp
  obtain ⟨p1, p2, k, hk⟩ := hpb
  have e := Int.mul_tdiv_add_tmod p b
  have nq : (p.tdiv b).natAbs = p.natAbs / b.natAbs := Int.natAbs_tdiv p b
  have nr : (p.tmod b).natAbs < b.natAbs := by rw [Int.natAbs_tmod]; exact Nat.mod_lt _ (by omega)
  have hle : p.natAbs / b.natAbs ≤ p.natAbs := Nat.div_le_self _ _
  generalize p.tmod b = r at *
  generalize hqq : p.tdiv b = q at *
  by_cases hf : q ≤ 9223372036854775807
  · have : wrap64 q = q := by unfold wrap64; omega
    rw [this] at hq'
    subst hq'
    rw [hc] at e
    omega
  · have q1 : q = 9223372036854775808 := by omega
    have p3 : p = -9223372036854775808 := by omega
    have a1 : a = -9223372036854775808 := by rw [← hq', q1]; decide +kernel
    have b1 : b = -1 := by
      by_cases hb2 : b.natAbs = 1
      · by_cases hb3 : b = 1
        · subst hb3; simp at hqq; omega
        · omega
      · have : p.natAbs / b.natAbs < p.natAbs := Nat.div_lt_self (by omega) (by omega)
        omega
    rw [p3, a1, b1] at hs
    simp at hs

theorem mul_over32 (a b : Int) (ha : -2147483648 ≤ a) (ha' : a ≤ 2147483647) (hb : -2147483648 ≤ b) (hb' : b ≤ 2147483647) (zb : b ≠ 0) (h : a * b < -2147483648 ∨ 2147483647 < a * b)
    (hs : decide (wrap32 (a * b) < 0) = (!(decide (a < 0) == decide (b < 0)))) (hq : (wrap32 ((wrap32 (a * b)).tdiv b) != a) = false) : False := by
  have hq' : wrap32 ((wrap32 (a * b)).tdiv b) = a := by simpa using hq
  clear hq
  have hc : b * a = a * b := Int.mul_comm b a
  generalize a * b = x at *
  obtain ⟨p, hp⟩ : ∃ p, p = wrap32 x := ⟨_, rfl⟩
  rw [← hp] at hs hq'
  have hpb : -2147483648 ≤ p ∧ p ≤ 2147483647 ∧ ∃ k : Int, p = x + k * 4294967296 := by
    rw [hp]; unfold wrap32
    refine ⟨by omega, by omega, -((x + 2147483648) / 4294967296), ?_⟩
    omega
  clear hp
  obtain ⟨p1, p2, k, hk⟩ := hpb
  have e := Int.mul_tdiv_add_tmod p b
  have nq : (p.tdiv b).natAbs = p.natAbs / b.natAbs := Int.natAbs_tdiv p b
  have nr : (p.tmod b).natAbs < b.natAbs := by rw [Int.natAbs_tmod]; exact Nat.mod_lt _ (by omega)
  have hle : p.natAbs / b.natAbs ≤ p.natAbs := Nat.div_le_self _ _
  generalize p.tmod b = r at *
  generalize hqq : p.tdiv b = q at *
  by_cases hf : q ≤ 2147483647
  · have : wrap32 q = q := by unfold wrap32; omega
    rw [this] at hq'
    subst hq'
    rw [hc] at e
    omega
  · have q1 : q = 2147483648 := by omega
    have p3 : p = -2147483648 := by omega
    have a1 : a = -2147483648 := by rw [← hq', q1]; decide +kernel
    have b1 : b = -1 := by
      by_cases hb2 : b.natAbs = 1
      · by_cases hb3 : b = 1
        · subst hb3; simp at hqq; omega
        · omega
      · have : p.natAbs / b.natAbs < p.natAbs := Nat.div_lt_self (by omega) (by omega)
        omega
    rw [p3, a1, b1] at hs
    simp at hs

end Go.Proofs.YtgnmkhjilecdhaaGreatDoor
namespace Go.Proofs.YtgnmkhjilecdhaaGreatDoor
open Go.RowKit

theorem hide {p : Prop} (h : p) : Hid p := h

def dig (c : UInt8) : Bool := decide (48 ≤ c.toNat) && decide (c.toNat ≤ 57)
def dgs (l : List UInt8) : Bool := l.all dig
def numL : List UInt8 → Bool
  | [] => false
  | c :: r => c != 48 && dgs (c :: r)
def unsig : List UInt8 → List UInt8
  | [] => []
  | c :: r => if c = 45 then r else c :: r
/-- The text is the one form of some number. -/
def formL (l : List UInt8) : Bool := l == [48] || numL (unsig l)
def formB (s : ByteArray) : Bool := formL s.data.toList
/-- The number of a row of digits. -/
def val (l : List UInt8) : Nat := l.foldl (fun a c => a * 10 + (c.toNat - 48)) 0

theorem toList_cons (s : ByteArray) (h : 0 < s.size) : ∃ r, s.data.toList = s[0] :: r := by
  obtain ⟨⟨l⟩⟩ := s
  cases l with
  | nil => simp [ByteArray.size] at h
  | cons c r => exact ⟨r, rfl⟩
theorem toList_nil (s : ByteArray) (h : ¬ 0 < s.size) : s.data.toList = [] := by
  have := Lib.size_eq s
  exact List.eq_nil_of_length_eq_zero (by omega)
theorem toList_ne (s : ByteArray) (h : 0 < s.size) : ¬ s.toList = [] := by
  rw [ByteArray.toList_eq]
  obtain ⟨r, hr⟩ := toList_cons s h
  rw [hr]; simp
theorem isEmpty_ne (s : ByteArray) (h : 0 < s.size) : s.toList.isEmpty = false := by
  rw [List.isEmpty_eq_false_iff]; exact toList_ne s h
theorem take_snoc (s : ByteArray) (k : Nat) (h : k < s.size) : s.data.toList.take (k + 1) = s.data.toList.take k ++ [s[k]] := by
  rw [List.take_succ_eq_append_getElem (by simpa using h)]; rfl
theorem dgs_snoc (l : List UInt8) (c : UInt8) : dgs (l ++ [c]) = (dgs l && dig c) := by simp [dgs]
theorem dgs_all (l : List UInt8) (k : Nat) (h : dgs l = true) : dgs (l.take k) = true := by
  unfold dgs at *
  rw [List.all_eq_true] at *
  exact fun x hx => h x (List.mem_of_mem_take hx)
theorem dgs_at (s : ByteArray) (k : Nat) (h : k < s.size) (hd : dgs s.data.toList = true) : 48 ≤ s[k].toNat ∧ s[k].toNat ≤ 57 := by
  unfold dgs at hd
  rw [List.all_eq_true] at hd
  have := hd s[k] (by rw [show s[k] = s.data.toList[k]'(by simpa using h) from rfl]; exact List.getElem_mem _)
  simpa [dig] using this
theorem val_snoc (l : List UInt8) (c : UInt8) : val (l ++ [c]) = val l * 10 + (c.toNat - 48) := by simp [val]
theorem val_go (l : List UInt8) (a : Nat) : a ≤ l.foldl (fun a c => a * 10 + (c.toNat - 48)) a := by
  induction l generalizing a with
  | nil => exact Nat.le_refl _
  | cons c r ih => exact Nat.le_trans (by omega) (ih (a * 10 + (c.toNat - 48)))
theorem val_take (l : List UInt8) (k : Nat) : val (l.take k) ≤ val l := by
  conv => rhs; rw [← List.take_append_drop k l]
  unfold val
  rw [List.foldl_append]
  exact val_go _ _
theorem take_all (s : ByteArray) (k : Nat) (h : s.size ≤ k) : s.data.toList.take k = s.data.toList :=
  List.take_of_length_le (by have := Lib.size_eq s; omega)

theorem eq_48 (c : UInt8) : ((c.toNat : Int) == 48) = (c == 48) := by
  rw [Bool.eq_iff_iff, beq_iff_eq, beq_iff_eq, ← UInt8.toNat_inj]; simp; omega
theorem eq_45 (c : UInt8) : ((c.toNat : Int) == 45) = (c == 45) := by
  rw [Bool.eq_iff_iff, beq_iff_eq, beq_iff_eq, ← UInt8.toNat_inj]; simp; omega

/-- Without a sign. -/
theorem form_bare (s : ByteArray) (h : 0 < s.size) (h0 : (s.toList == [48]) = false) (h1 : ((s[0].toNat : Int) == 45) = false) (h2 : ((s[0].toNat : Int) == 48) = false) : formB s = dgs s.data.toList := by
  rw [eq_45] at h1; rw [eq_48] at h2; rw [ByteArray.toList_eq] at h0
  obtain ⟨r, hr⟩ := toList_cons s h
  unfold formB formL
  rw [h0, hr]
  have e1 : ¬ s[0] = 45 := by simpa using h1
  have e2 : (s[0] != 48) = true := by rw [bne, h2]; rfl
  simp only [unsig, if_neg e1, numL, e2, Bool.true_and, Bool.false_or]
/-- With a sign: t is what is behind it. -/
theorem form_sign (s t : ByteArray) (h : 0 < s.size) (ht : s.extract 1 s.size = t) (h1 : ((s[0].toNat : Int) == 45) = true) : formB s = numL t.data.toList := by
  rw [eq_45] at h1
  obtain ⟨r, hr⟩ := toList_cons s h
  have e1 : s[0] = 45 := by simpa using h1
  have e2 : t.data.toList = r := by
    rw [← ht, Lib.extract_data, hr, List.drop_one, List.tail_cons]
    exact List.take_of_length_le (by have := Lib.size_eq s; rw [hr] at this; simp at this; omega)
  unfold formB formL
  rw [hr, e1, e2]
  simp [unsig]
theorem num_nil (t : ByteArray) (h : ¬ 0 < t.size) : numL t.data.toList = false := by rw [toList_nil t h]; rfl
theorem num_zero (t : ByteArray) (h : 0 < t.size) (h2 : ((t[0].toNat : Int) == 48) = true) : numL t.data.toList = false := by
  rw [eq_48] at h2
  obtain ⟨r, hr⟩ := toList_cons t h
  have e2 : t[0] = 48 := by simpa using h2
  rw [hr, e2]; rfl
theorem num_else (t : ByteArray) (h : 0 < t.size) (h2 : ((t[0].toNat : Int) == 48) = false) : numL t.data.toList = dgs t.data.toList := by
  rw [eq_48] at h2
  obtain ⟨r, hr⟩ := toList_cons t h
  rw [hr]
  have e2 : (t[0] != 48) = true := by rw [bne, h2]; rfl
  simp only [numL, e2, Bool.true_and]
theorem form_zero (s : ByteArray) (h0 : (s.toList == [48]) = true) : formB s = true := by
  rw [ByteArray.toList_eq] at h0
  unfold formB formL; rw [h0]; rfl
theorem form_nil (s : ByteArray) (h : ¬ 0 < s.size) : formB s = false := by unfold formB; rw [toList_nil s h]; rfl
theorem form_lead (s : ByteArray) (h : 0 < s.size) (h0 : (s.toList == [48]) = false) (h2 : ((s[0].toNat : Int) == 48) = true) : formB s = false := by
  rw [eq_48] at h2; rw [ByteArray.toList_eq] at h0
  obtain ⟨r, hr⟩ := toList_cons s h
  have e2 : s[0] = 48 := by simpa using h2
  unfold formB formL
  rw [h0, hr, e2]; rfl
end Go.Proofs.YtgnmkhjilecdhaaGreatDoor
namespace Go.Proofs.YtgnmkhjilecdhaaGreatDoor
open Go.RowKit
set_option linter.unusedVariables false

set_option maxHeartbeats 400000 in
theorem add64_yes (a b : Int) (w : World) (ha : -9223372036854775808 ≤ a) (ha' : a ≤ 9223372036854775807) (hb : -9223372036854775808 ≤ b) (hb' : b ≤ 9223372036854775807) (h1 : -9223372036854775808 ≤ a + b) (h2 : a + b ≤ 9223372036854775807) :
    Calls Tryz.prog 98 #[.int .i64 a, .int .i64 b] w fun e w' => e = .returned (.tuple #[.int .i64 (a + b), .bool true]) ∧ w' = w := by
  have t : (decide (b < 0) == decide (a + b < a)) = true := by rw [beq_iff_eq, decide_eq_decide]; omega
  go_enter Tryz.func98, Tryz.ntmps98
  go_wp2
  go_ret2
  exact ⟨rfl, rfl⟩
set_option maxHeartbeats 400000 in
theorem add64_no (a b : Int) (w : World) (ha : -9223372036854775808 ≤ a) (ha' : a ≤ 9223372036854775807) (hb : -9223372036854775808 ≤ b) (hb' : b ≤ 9223372036854775807) (h : a + b < -9223372036854775808 ∨ 9223372036854775807 < a + b) :
    Calls Tryz.prog 98 #[.int .i64 a, .int .i64 b] w fun e w' => e = .returned (.tuple #[.int .i64 0, .bool false]) ∧ w' = w := by
  have t : (decide (b < 0) == decide (wrap64 (a + b) < a)) = false := by
    rw [beq_eq_false_iff_ne, ne_eq, decide_eq_decide]; unfold wrap64; omega
  clear h
  go_enter Tryz.func98, Tryz.ntmps98
  go_wp2
  go_ret2
  exact ⟨rfl, rfl⟩

set_option maxHeartbeats 400000 in
theorem sub64_yes (a b : Int) (w : World) (ha : -9223372036854775808 ≤ a) (ha' : a ≤ 9223372036854775807) (hb : -9223372036854775808 ≤ b) (hb' : b ≤ 9223372036854775807) (h1 : -9223372036854775808 ≤ a - b) (h2 : a - b ≤ 9223372036854775807) :
    Calls Tryz.prog 21 #[.int .i64 a, .int .i64 b] w fun e w' => e = .returned (.tuple #[.int .i64 (a - b), .bool true]) ∧ w' = w := by
  have t : (decide (0 < b) == decide (a - b < a)) = true := by rw [beq_iff_eq, decide_eq_decide]; omega
  go_enter Tryz.func21, Tryz.ntmps21
  go_wp2
  go_ret2
  exact ⟨rfl, rfl⟩
set_option maxHeartbeats 400000 in
theorem sub64_no (a b : Int) (w : World) (ha : -9223372036854775808 ≤ a) (ha' : a ≤ 9223372036854775807) (hb : -9223372036854775808 ≤ b) (hb' : b ≤ 9223372036854775807) (h : a - b < -9223372036854775808 ∨ 9223372036854775807 < a - b) :
    Calls Tryz.prog 21 #[.int .i64 a, .int .i64 b] w fun e w' => e = .returned (.tuple #[.int .i64 0, .bool false]) ∧ w' = w := by
  have t : (decide (0 < b) == decide (wrap64 (a - b) < a)) = false := by
    rw [beq_eq_false_iff_ne, ne_eq, decide_eq_decide]; unfold wrap64; omega
  clear h
  go_enter Tryz.func21, Tryz.ntmps21
  go_wp2
  go_ret2
  exact ⟨rfl, rfl⟩

set_option maxHeartbeats 400000 in
theorem mul64_yes (a b : Int) (w : World) (ha : -9223372036854775808 ≤ a) (ha' : a ≤ 9223372036854775807) (hb : -9223372036854775808 ≤ b) (hb' : b ≤ 9223372036854775807) (h1 : -9223372036854775808 ≤ a * b) (h2 : a * b ≤ 9223372036854775807) :
    Calls Tryz.prog 97 #[.int .i64 a, .int .i64 b] w fun e w' => e = .returned (.tuple #[.int .i64 (a * b), .bool true]) ∧ w' = w := by
  by_cases za : a = 0
  · subst za
    go_enter Tryz.func97, Tryz.ntmps97
    go_wp2
    go_ret2
    exact ⟨ret_two (by omega) rfl, rfl⟩
  by_cases zb : b = 0
  · subst zb
    have ta : (a == 0) = false := by rw [beq_eq_false_iff_ne]; exact za
    go_enter Tryz.func97, Tryz.ntmps97
    go_wp2
    go_ret2
    exact ⟨ret_two (by omega) rfl, rfl⟩
  have ta : (a == 0) = false := by rw [beq_eq_false_iff_ne]; exact za
  have tb : (b == 0) = false := by rw [beq_eq_false_iff_ne]; exact zb
  go_enter Tryz.func97, Tryz.ntmps97
  go_wp2
  · go_ret2
    exact ⟨rfl, rfl⟩
  · exact absurd (mul_sign a b za zb) (by assumption)
set_option maxHeartbeats 400000 in
theorem mul64_no (a b : Int) (w : World) (ha : -9223372036854775808 ≤ a) (ha' : a ≤ 9223372036854775807) (hb : -9223372036854775808 ≤ b) (hb' : b ≤ 9223372036854775807) (h : a * b < -9223372036854775808 ∨ 9223372036854775807 < a * b) :
    Calls Tryz.prog 97 #[.int .i64 a, .int .i64 b] w fun e w' => e = .returned (.tuple #[.int .i64 0, .bool false]) ∧ w' = w := by
  have za : a ≠ 0 := by rintro rfl; omega
  have zb : b ≠ 0 := by rintro rfl; omega
  have ta : (a == 0) = false := by rw [beq_eq_false_iff_ne]; exact za
  have tb : (b == 0) = false := by rw [beq_eq_false_iff_ne]; exact zb
  have H : ¬ (decide (wrap64 (a * b) < 0) = (!(decide (a < 0) == decide (b < 0))) ∧ (wrap64 ((wrap64 (a * b)).tdiv b) != a) = false) := fun h3 => mul_over64 a b ha ha' hb hb' zb h h3.1 h3.2
  have HH : Hid (¬ (decide (wrap64 (a * b) < 0) = (!(decide (a < 0) == decide (b < 0))) ∧ (wrap64 ((wrap64 (a * b)).tdiv b) != a) = false)) := H
  clear H h
  go_enter Tryz.func97, Tryz.ntmps97
  go_wp2
  · go_ret2
    exact ⟨rfl, rfl⟩
  · exact absurd ⟨by assumption, by assumption⟩ HH.out
  · go_ret2
    exact ⟨rfl, rfl⟩

end Go.Proofs.YtgnmkhjilecdhaaGreatDoor
namespace Go.Proofs.YtgnmkhjilecdhaaGreatDoor
open Go.RowKit
set_option linter.unusedVariables false

theorem dgs_step (s : ByteArray) (k : Nat) (h : k < s.size) (hd : dgs (s.data.toList.take k) = true) (hc : 48 ≤ (s[k].toNat : Int) ∧ (s[k].toNat : Int) ≤ 57) : dgs (s.data.toList.take (k + 1)) = true := by
  rw [take_snoc s k h, dgs_snoc, hd]
  simp [dig]; omega
theorem dgs_stop (s : ByteArray) (k : Nat) (h : k < s.size) (hc : ¬ (48 ≤ (s[k].toNat : Int) ∧ (s[k].toNat : Int) ≤ 57)) : dgs s.data.toList = false := by
  rw [Bool.eq_false_iff]
  intro hd
  have := dgs_at s k h hd
  omega

set_option maxHeartbeats 1000000 in
theorem isForm_any (s : ByteArray) (w : World) (hs : s.size ≤ maxLen) :
    Calls Tryz.prog 120 #[.string s] w fun e w' => e = .returned (.bool (formB s)) ∧ w' = w := by
  unfold maxLen at hs
  cases h0 : (s.toList == [48])
  · by_cases hp : 0 < s.size
    · have n1 := toList_ne s hp
      have n2 := isEmpty_ne s hp
      cases h1 : ((s[0].toNat : Int) == 45)
      · cases h2 : ((s[0].toNat : Int) == 48)
        · have HF := hide (form_bare s hp h0 h1 h2)
          go_enter Tryz.func120, Tryz.ntmps120
          go_wp2
          go_loop [24, 3] (fun i _ => ∃ k : Nat, k ≤ s.size ∧ i = .int .i64 k ∧ Hid (dgs (s.data.toList.take k) = true)) (fun i _ => s.size - (intOf i).toNat)
          case atStart => exact ⟨0, Nat.zero_le _, rfl, rfl⟩
          case round =>
            obtain ⟨k, hk, rfl, hd⟩ := hrel
            by_cases hlt : k < s.size
            · by_cases hc : 48 ≤ (s[k].toNat : Int) ∧ (s[k].toNat : Int) ≤ 57
              · have HD := hide (dgs_step s k hlt hd.out hc)
                obtain ⟨hc1, hc2⟩ := hc
                go_wp2
                go_round
                case rel => exact ⟨k + 1, by omega, by go_num, HD.out⟩
                case measure => simp [intOf]; omega
              · have HN := hide (dgs_stop s k hlt hc)
                by_cases hc1 : 48 ≤ (s[k].toNat : Int)
                · have hc2 : 57 < (s[k].toNat : Int) := by omega
                  clear hc
                  go_wp2
                  go_ret
                  exact ⟨ret_bool (HF.out.trans HN.out).symm, rfl⟩
                · have hc2 : (s[k].toNat : Int) < 48 := by omega
                  clear hc hc1
                  go_wp2
                  go_ret
                  exact ⟨ret_bool (HF.out.trans HN.out).symm, rfl⟩
            · have HA := hide (show dgs s.data.toList = true by rw [← take_all s k (by omega)]; exact hd.out)
              go_wp2
              go_ret
              exact ⟨ret_bool (HF.out.trans HA.out).symm, rfl⟩
        · have HF := hide (form_lead s hp h0 h2)
          go_enter Tryz.func120, Tryz.ntmps120
          go_wp2
          go_ret
          exact ⟨ret_bool HF.out.symm, rfl⟩
      · obtain ⟨t, ht⟩ : ∃ t, s.extract 1 s.size = t := ⟨_, rfl⟩
        have HS := hide (form_sign s t hp ht h1)
        have hts : t.size = s.size - 1 := by rw [← ht]; simp
        have htm : t.size ≤ 9223372036854775807 := by omega
        by_cases tp : 0 < t.size
        · have m1 := toList_ne t tp
          have m2 := isEmpty_ne t tp
          have hle : (1 : Int) ≤ s.size := by omega
          clear hts
          cases h2 : ((t[0].toNat : Int) == 48)
          · have HF := hide (HS.out.trans (num_else t tp h2))
            go_enter Tryz.func120, Tryz.ntmps120
            go_wp2
            go_loop [24, 3] (fun i _ => ∃ k : Nat, k ≤ t.size ∧ i = .int .i64 k ∧ Hid (dgs (t.data.toList.take k) = true)) (fun i _ => t.size - (intOf i).toNat)
            case atStart => exact ⟨0, Nat.zero_le _, rfl, rfl⟩
            case round =>
              obtain ⟨k, hk, rfl, hd⟩ := hrel
              by_cases hlt : k < t.size
              · by_cases hc : 48 ≤ (t[k].toNat : Int) ∧ (t[k].toNat : Int) ≤ 57
                · have HD := hide (dgs_step t k hlt hd.out hc)
                  obtain ⟨hc1, hc2⟩ := hc
                  go_wp2
                  go_round
                  case rel => exact ⟨k + 1, by omega, by go_num, HD.out⟩
                  case measure => simp [intOf]; omega
                · have HN := hide (dgs_stop t k hlt hc)
                  by_cases hc1 : 48 ≤ (t[k].toNat : Int)
                  · have hc2 : 57 < (t[k].toNat : Int) := by omega
                    clear hc
                    go_wp2
                    go_ret
                    exact ⟨ret_bool (HF.out.trans HN.out).symm, rfl⟩
                  · have hc2 : (t[k].toNat : Int) < 48 := by omega
                    clear hc hc1
                    go_wp2
                    go_ret
                    exact ⟨ret_bool (HF.out.trans HN.out).symm, rfl⟩
              · have HA := hide (show dgs t.data.toList = true by rw [← take_all t k (by omega)]; exact hd.out)
                go_wp2
                go_ret
                exact ⟨ret_bool (HF.out.trans HA.out).symm, rfl⟩
          · have HF := hide (HS.out.trans (num_zero t tp h2))
            go_enter Tryz.func120, Tryz.ntmps120
            go_wp2
            go_ret
            exact ⟨ret_bool HF.out.symm, rfl⟩
        · have HF := hide (HS.out.trans (num_nil t tp))
          have m1 : t.toList = [] := by rw [ByteArray.toList_eq]; exact toList_nil t tp
          have hle : (1 : Int) ≤ s.size := by omega
          clear hts
          go_enter Tryz.func120, Tryz.ntmps120
          go_wp2
          go_ret
          exact ⟨ret_bool HF.out.symm, rfl⟩
    · have HF := hide (form_nil s hp)
      have m1 : s.toList = [] := by rw [ByteArray.toList_eq]; exact toList_nil s hp
      go_enter Tryz.func120, Tryz.ntmps120
      go_wp2
      go_ret
      exact ⟨ret_bool HF.out.symm, rfl⟩
  · have HF := hide (form_zero s h0)
    go_enter Tryz.func120, Tryz.ntmps120
    go_wp2
    go_ret
    exact ⟨ret_bool HF.out.symm, rfl⟩


set_option maxHeartbeats 1000000 in
theorem readBelow_yes (s : ByteArray) (w : World) (hs : s.size ≤ maxLen) (hd : dgs s.data.toList = true) (hv : val s.data.toList ≤ 9223372036854775808) :
    Calls Tryz.prog 121 #[.string s] w fun e w' => e = .returned (.tuple #[.int .i64 (-(val s.data.toList : Int)), .int .i64 0]) ∧ w' = w := by
  unfold maxLen at hs
  have HD := hide hd
  clear hd
  have HV := hide hv
  clear hv
  go_enter Tryz.func121, Tryz.ntmps121
  go_wp2
  go_loop [4, 10] (fun b i => ∃ k v : Nat, k ≤ s.size ∧ i = .int .i64 k ∧ Hid (v = val (s.data.toList.take k)) ∧ b = .int .i64 (-(v : Int)) ∧ v ≤ 9223372036854775808) (fun _ i => s.size - (intOf i).toNat)
  case atStart => exact ⟨0, 0, Nat.zero_le _, rfl, rfl, rfl, Nat.zero_le _⟩
  case round =>
    obtain ⟨k, v, hk, rfl, Hv, rfl, hvb⟩ := hrel
    by_cases hlt : k < s.size
    · obtain ⟨d1, d2⟩ := dgs_at s k hlt HD.out
      have Hn : Hid (val (s.data.toList.take (k + 1)) = v * 10 + (s[k].toNat - 48)) := by rw [take_snoc s k hlt, val_snoc, ← Hv.out]; rfl
      have hm := Nat.le_trans (val_take s.data.toList (k + 1)) HV.out
      rw [Hn.out] at hm
      have d1' : 48 ≤ (s[k].toNat : Int) := by omega
      have d2' : (s[k].toNat : Int) ≤ 57 := by omega
      go_wp2_with (first
        | (go_at_call 97; refine (mul64_yes _ _ _ (by omega) (by omega) (by omega) (by omega) (by omega) (by omega)).mono ?_; rintro e w' ⟨rfl, rfl⟩)
        | (go_at_call 21; refine (sub64_yes _ _ _ (by omega) (by omega) (by omega) (by omega) (by omega) (by omega)).mono ?_; rintro e w' ⟨rfl, rfl⟩))
      go_round
      case rel => exact ⟨k + 1, v * 10 + (s[k].toNat - 48), by omega, by go_num, Hn.out.symm, congrArg (Value.int .i64) (by omega), hm⟩
      case measure => simp [intOf]; omega
    · have Hz : Hid (v = val s.data.toList) := by rw [← take_all s k (by omega)]; exact Hv.out
      go_wp2
      go_ret2
      exact ⟨ret_ii (by rw [Hz.out]) rfl, rfl⟩

set_option maxHeartbeats 1000000 in
theorem readBelow_no (s : ByteArray) (w : World) (hs : s.size ≤ maxLen) (hd : dgs s.data.toList = true) (hv : 9223372036854775808 < val s.data.toList) :
    Calls Tryz.prog 121 #[.string s] w fun e w' => e = .returned (.tuple #[.int .i64 0, .int .i64 13]) ∧ w' = w := by
  unfold maxLen at hs
  have HD := hide hd
  clear hd
  have HV := hide hv
  clear hv
  go_enter Tryz.func121, Tryz.ntmps121
  go_wp2
  go_loop [4, 10] (fun b i => ∃ k v : Nat, k ≤ s.size ∧ i = .int .i64 k ∧ Hid (v = val (s.data.toList.take k)) ∧ b = .int .i64 (-(v : Int)) ∧ v ≤ 9223372036854775808) (fun _ i => s.size - (intOf i).toNat)
  case atStart => exact ⟨0, 0, Nat.zero_le _, rfl, rfl, rfl, Nat.zero_le _⟩
  case round =>
    obtain ⟨k, v, hk, rfl, Hv, rfl, hvb⟩ := hrel
    by_cases hlt : k < s.size
    · obtain ⟨d1, d2⟩ := dgs_at s k hlt HD.out
      have Hn : Hid (val (s.data.toList.take (k + 1)) = v * 10 + (s[k].toNat - 48)) := by rw [take_snoc s k hlt, val_snoc, ← Hv.out]; rfl
      have d1' : 48 ≤ (s[k].toNat : Int) := by omega
      have d2' : (s[k].toNat : Int) ≤ 57 := by omega
      by_cases hm1 : v * 10 ≤ 9223372036854775808
      · by_cases hm : v * 10 + (s[k].toNat - 48) ≤ 9223372036854775808
        · go_wp2_with (first
            | (go_at_call 97; refine (mul64_yes _ _ _ (by omega) (by omega) (by omega) (by omega) (by omega) (by omega)).mono ?_; rintro e w' ⟨rfl, rfl⟩)
            | (go_at_call 21; refine (sub64_yes _ _ _ (by omega) (by omega) (by omega) (by omega) (by omega) (by omega)).mono ?_; rintro e w' ⟨rfl, rfl⟩))
          go_round
          case rel => exact ⟨k + 1, v * 10 + (s[k].toNat - 48), by omega, by go_num, Hn.out.symm, congrArg (Value.int .i64) (by omega), hm⟩
          case measure => simp [intOf]; omega
        · go_wp2_with (first
            | (go_at_call 97; refine (mul64_yes _ _ _ (by omega) (by omega) (by omega) (by omega) (by omega) (by omega)).mono ?_; rintro e w' ⟨rfl, rfl⟩)
            | (go_at_call 21; refine (sub64_no _ _ _ (by omega) (by omega) (by omega) (by omega) (by omega)).mono ?_; rintro e w' ⟨rfl, rfl⟩))
          go_ret2
          exact ⟨rfl, rfl⟩
      · go_wp2_with (go_at_call 97; refine (mul64_no _ _ _ (by omega) (by omega) (by omega) (by omega) (by omega)).mono ?_; rintro e w' ⟨rfl, rfl⟩)
        go_ret2
        exact ⟨rfl, rfl⟩
    · exfalso
      have := HV.out
      rw [← take_all s k (by omega), ← Hv.out] at this
      omega

theorem form_size (s : ByteArray) (h : formB s = true) : 0 < s.size := by
  by_cases hp : 0 < s.size
  · exact hp
  · rw [form_nil s hp] at h; cases h
theorem form_dgs_bare (s : ByteArray) (hp : 0 < s.size) (h : formB s = true) (h1 : ((s[0].toNat : Int) == 45) = false) : dgs s.data.toList = true := by
  cases h0 : (s.toList == [48])
  · cases h2 : ((s[0].toNat : Int) == 48)
    · rw [← form_bare s hp h0 h1 h2]; exact h
    · rw [form_lead s hp h0 h2] at h; cases h
  · rw [ByteArray.toList_eq, beq_iff_eq] at h0; rw [h0]; rfl
theorem form_dgs_sign (s t : ByteArray) (hp : 0 < s.size) (ht : s.extract 1 s.size = t) (h : formB s = true) (h1 : ((s[0].toNat : Int) == 45) = true) : dgs t.data.toList = true := by
  rw [form_sign s t hp ht h1] at h
  by_cases tp : 0 < t.size
  · cases h2 : ((t[0].toNat : Int) == 48)
    · rw [← num_else t tp h2]; exact h
    · rw [num_zero t tp h2] at h; cases h
  · rw [num_nil t tp] at h; cases h

set_option maxHeartbeats 400000 in
theorem read_bad (s : ByteArray) (w : World) (hs : s.size ≤ maxLen) (h : formB s = false) :
    Calls Tryz.prog 96 #[.string s] w fun e w' => e = .returned (.tuple #[.int .i64 0, .int .i64 12]) ∧ w' = w := by
  go_enter Tryz.func96, Tryz.ntmps96
  go_wp2_with (go_at_call 120; refine (isForm_any _ _ (by assumption)).mono ?_; rintro e w' ⟨rfl, rfl⟩)
  go_ret2
  exact ⟨rfl, rfl⟩
set_option maxHeartbeats 400000 in
theorem read_neg (s t : ByteArray) (w : World) (hs : s.size ≤ maxLen) (h : formB s = true) (hp : 0 < s.size) (ht : s.extract 1 s.size = t) (h1 : ((s[0].toNat : Int) == 45) = true) (hv : val t.data.toList ≤ 9223372036854775808) :
    Calls Tryz.prog 96 #[.string s] w fun e w' => e = .returned (.tuple #[.int .i64 (-(val t.data.toList : Int)), .int .i64 0]) ∧ w' = w := by
  have HD := hide (form_dgs_sign s t hp ht h h1)
  have HV := hide hv
  clear hv
  have hts : t.size ≤ maxLen := by rw [← ht]; simp; omega
  have hle : (1 : Int) ≤ s.size := by omega
  go_enter Tryz.func96, Tryz.ntmps96
  go_wp2_with (first | (go_at_call 120; refine (isForm_any _ _ (by assumption)).mono ?_; rintro e w' ⟨rfl, rfl⟩) | (go_at_call 121; refine (readBelow_yes _ _ hts HD.out HV.out).mono ?_; rintro e w' ⟨rfl, rfl⟩))
  go_ret2
  exact ⟨rfl, rfl⟩
set_option maxHeartbeats 400000 in
theorem read_negover (s t : ByteArray) (w : World) (hs : s.size ≤ maxLen) (h : formB s = true) (hp : 0 < s.size) (ht : s.extract 1 s.size = t) (h1 : ((s[0].toNat : Int) == 45) = true) (hv : 9223372036854775808 < val t.data.toList) :
    Calls Tryz.prog 96 #[.string s] w fun e w' => e = .returned (.tuple #[.int .i64 0, .int .i64 13]) ∧ w' = w := by
  have HD := hide (form_dgs_sign s t hp ht h h1)
  have HV := hide hv
  clear hv
  have hts : t.size ≤ maxLen := by rw [← ht]; simp; omega
  have hle : (1 : Int) ≤ s.size := by omega
  go_enter Tryz.func96, Tryz.ntmps96
  go_wp2_with (first | (go_at_call 120; refine (isForm_any _ _ (by assumption)).mono ?_; rintro e w' ⟨rfl, rfl⟩) | (go_at_call 121; refine (readBelow_no _ _ hts HD.out HV.out).mono ?_; rintro e w' ⟨rfl, rfl⟩))
  go_ret2
  exact ⟨rfl, rfl⟩
set_option maxHeartbeats 400000 in
theorem read_pos (s : ByteArray) (w : World) (hs : s.size ≤ maxLen) (h : formB s = true) (hp : 0 < s.size) (h1 : ((s[0].toNat : Int) == 45) = false) (hv : val s.data.toList ≤ 9223372036854775807) :
    Calls Tryz.prog 96 #[.string s] w fun e w' => e = .returned (.tuple #[.int .i64 (val s.data.toList : Int), .int .i64 0]) ∧ w' = w := by
  have HD := hide (form_dgs_bare s hp h h1)
  have HR := hide (readBelow_yes s · hs HD.out (by omega))
  have hm : ((-(val s.data.toList : Int)) == -9223372036854775808) = false := by rw [beq_eq_false_iff_ne]; omega
  generalize val s.data.toList = v at *
  go_enter Tryz.func96, Tryz.ntmps96
  go_wp2_with (first | (go_at_call 120; refine (isForm_any _ _ (by assumption)).mono ?_; rintro e w' ⟨rfl, rfl⟩) | (go_at_call 121; refine (HR.out _).mono ?_; rintro e w' ⟨rfl, rfl⟩))
  go_ret2
  exact ⟨ret_ii (by omega) rfl, rfl⟩
set_option maxHeartbeats 400000 in
theorem read_posover (s : ByteArray) (w : World) (hs : s.size ≤ maxLen) (h : formB s = true) (hp : 0 < s.size) (h1 : ((s[0].toNat : Int) == 45) = false) (hv : 9223372036854775807 < val s.data.toList) :
    Calls Tryz.prog 96 #[.string s] w fun e w' => e = .returned (.tuple #[.int .i64 0, .int .i64 13]) ∧ w' = w := by
  have HD := hide (form_dgs_bare s hp h h1)
  by_cases hm : val s.data.toList ≤ 9223372036854775808
  · have HR := hide (readBelow_yes s · hs HD.out hm)
    have e : val s.data.toList = 9223372036854775808 := by omega
    rw [e] at HR
    clear e hm hv
    go_enter Tryz.func96, Tryz.ntmps96
    go_wp2_with (first | (go_at_call 120; refine (isForm_any _ _ (by assumption)).mono ?_; rintro e w' ⟨rfl, rfl⟩) | (go_at_call 121; refine (HR.out _).mono ?_; rintro e w' ⟨rfl, rfl⟩))
    go_ret2
    exact ⟨rfl, rfl⟩
  · have HR := hide (readBelow_no s · hs HD.out (by omega))
    clear hm hv
    go_enter Tryz.func96, Tryz.ntmps96
    go_wp2_with (first | (go_at_call 120; refine (isForm_any _ _ (by assumption)).mono ?_; rintro e w' ⟨rfl, rfl⟩) | (go_at_call 121; refine (HR.out _).mono ?_; rintro e w' ⟨rfl, rfl⟩))
    go_ret2
    exact ⟨rfl, rfl⟩
end Go.Proofs.YtgnmkhjilecdhaaGreatDoor
