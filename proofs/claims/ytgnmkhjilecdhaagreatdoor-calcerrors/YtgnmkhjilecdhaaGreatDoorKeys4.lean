/- The order of values as one of keys: rank, number, text. Package value's Compare and the reference's answer by it, for all values. -/
import Derived.Test.YtgnmkhjilecdhaaGreatDoorRCmpb4
import Derived.Sort.Walk0
namespace Go.Proofs.YtgnmkhjilecdhaaGreatDoor
open Go.RowKit Go.Sort
set_option linter.unusedVariables false

abbrev cb := Lib.compareBytes
theorem cb_nil_left (l : List UInt8) (h : l ≠ []) : cb [] l = -1 := by cases l with | nil => exact absurd rfl h | cons _ _ => rfl
theorem cb_nil_right (l : List UInt8) (h : l ≠ []) : cb l [] = 1 := by cases l with | nil => exact absurd rfl h | cons _ _ => rfl
theorem cb_lt {a b : UInt8} (l m : List UInt8) (h : a < b) : cb (a :: l) (b :: m) = -1 := by
  show Lib.compareBytes _ _ = _; unfold Lib.compareBytes; rw [if_pos h]
theorem cb_gt {a b : UInt8} (l m : List UInt8) (h : b < a) : cb (a :: l) (b :: m) = 1 := by
  show Lib.compareBytes _ _ = _; unfold Lib.compareBytes
  rw [if_neg (by rw [UInt8.lt_iff_toNat_lt] at *; omega), if_pos h]
theorem cb_eq (a : UInt8) (l m : List UInt8) : cb (a :: l) (a :: m) = cb l m := by
  show Lib.compareBytes _ _ = Lib.compareBytes _ _
  conv => lhs; unfold Lib.compareBytes
  rw [if_neg (UInt8.lt_irrefl a), if_neg (UInt8.lt_irrefl a)]
theorem tri (a b : UInt8) : a < b ∨ b < a ∨ a = b := by
  rw [UInt8.lt_iff_toNat_lt, UInt8.lt_iff_toNat_lt, ← UInt8.toNat_inj]; omega
theorem cb_self : ∀ l : List UInt8, cb l l = 0
  | [] => rfl
  | a :: l => by rw [cb_eq]; exact cb_self l
theorem cb_anti : ∀ l m : List UInt8, cb l m = - cb m l
  | [], [] => rfl
  | [], _ :: _ => rfl
  | _ :: _, [] => rfl
  | a :: l, b :: m => by
    rcases tri a b with h | h | h
    · rw [cb_lt _ _ h, cb_gt _ _ h]
    · rw [cb_gt _ _ h, cb_lt _ _ h]; rfl
    · subst h; rw [cb_eq, cb_eq]; exact cb_anti l m
theorem cb_range : ∀ l m : List UInt8, cb l m = -1 ∨ cb l m = 0 ∨ cb l m = 1
  | [], [] => .inr (.inl rfl)
  | [], _ :: _ => .inl rfl
  | _ :: _, [] => .inr (.inr rfl)
  | a :: l, b :: m => by
    rcases tri a b with h | h | h
    · exact .inl (cb_lt _ _ h)
    · exact .inr (.inr (cb_gt _ _ h))
    · subst h; rw [cb_eq]; exact cb_range l m
theorem cb_zero : ∀ {l m : List UInt8}, cb l m = 0 → l = m
  | [], [], _ => rfl
  | [], _ :: _, h => absurd h (by show ¬ (-1 : Int) = 0; decide)
  | _ :: _, [], h => absurd h (by show ¬ (1 : Int) = 0; decide)
  | a :: l, b :: m, h => by
    rcases tri a b with h' | h' | h'
    · rw [cb_lt _ _ h'] at h; cases h
    · rw [cb_gt _ _ h'] at h; cases h
    · subst h'; rw [cb_eq] at h; rw [cb_zero h]
theorem cb_trans : ∀ {l m n : List UInt8}, cb l m ≤ 0 → cb m n ≤ 0 → cb l n ≤ 0
  | [], _, [], _, _ => by decide
  | [], _, _ :: _, _, _ => by show (-1 : Int) ≤ 0; decide
  | _ :: _, [], _, h, _ => absurd h (by show ¬ (1 : Int) ≤ 0; decide)
  | _ :: _, _ :: _, [], _, h => absurd h (by show ¬ (1 : Int) ≤ 0; decide)
  | a :: l, b :: m, c :: n, h1, h2 => by
    rcases tri a b with h | h | h
    · rcases tri b c with h' | h' | h'
      · rw [cb_lt _ _ (UInt8.lt_trans h h')]; decide
      · rw [cb_gt _ _ h'] at h2; exact absurd h2 (by decide)
      · subst h'; rw [cb_lt _ _ h]; decide
    · rw [cb_gt _ _ h] at h1; exact absurd h1 (by decide)
    · subst h
      rcases tri a c with h' | h' | h'
      · rw [cb_lt _ _ h']; decide
      · rw [cb_gt _ _ h'] at h2; exact absurd h2 (by decide)
      · subst h'; rw [cb_eq] at h1 h2 ⊢; exact cb_trans h1 h2
theorem less_cb : ∀ l m : List UInt8, Op.bytesLess l m = decide (cb l m = -1)
  | [], [] => rfl
  | [], _ :: _ => rfl
  | _ :: _, [] => rfl
  | a :: l, b :: m => by
    unfold Op.bytesLess
    rcases tri a b with h | h | h
    · rw [cb_lt _ _ h]; simp [h]
    · rw [cb_gt _ _ h]
      have h1 : ¬ a < b := by rw [UInt8.lt_iff_toNat_lt] at *; omega
      have h2 : ¬ a = b := by intro e; subst e; exact UInt8.lt_irrefl _ h
      simp [h1, h2]
    · subst h; rw [cb_eq, less_cb l m]; simp [UInt8.lt_irrefl]
theorem data_eq {s t : ByteArray} (h : s.data.toList = t.data.toList) : s = t := by
  obtain ⟨⟨l⟩⟩ := s; obtain ⟨⟨m⟩⟩ := t
  have h' : l = m := h
  rw [h']

/-- The rank of a kind in the order. -/
def rk (k : Int) : Int := if k = 1 then 1 else if k = 3 then 2 else if k = 2 then 3 else if k = 4 then 4 else 0
/-- The kind that a blank takes beside another value. -/
def besK (k k2 : Int) : Int := if k = 0 ∧ k2 ≠ 4 then k2 else k
def cmpK (r i : Int) (t : ByteArray) (r' i' : Int) (t' : ByteArray) : Int := if r < r' then -1 else if r' < r then 1 else if i < i' then -1 else if i' < i then 1 else cb t.data.toList t'.data.toList
/-- The order of two values. -/
def cmpV (k i : Int) (t : ByteArray) (k' i' : Int) (t' : ByteArray) : Int := cmpK (rk (besK k k')) i t (rk (besK k' k)) i' t'
theorem cmpK_rlt {r i r' i' : Int} {t t' : ByteArray} (h : r < r') : cmpK r i t r' i' t' = -1 := if_pos h
theorem cmpK_rgt {r i r' i' : Int} {t t' : ByteArray} (h : r' < r) : cmpK r i t r' i' t' = 1 := by unfold cmpK; rw [if_neg (by omega), if_pos h]
theorem cmpK_ilt {r i i' : Int} {t t' : ByteArray} (h : i < i') : cmpK r i t r i' t' = -1 := by unfold cmpK; rw [if_neg (by omega), if_neg (by omega), if_pos h]
theorem cmpK_igt {r i i' : Int} {t t' : ByteArray} (h : i' < i) : cmpK r i t r i' t' = 1 := by unfold cmpK; rw [if_neg (by omega), if_neg (by omega), if_neg (by omega), if_pos h]
theorem cmpK_t (r i : Int) (t t' : ByteArray) : cmpK r i t r i t' = cb t.data.toList t'.data.toList := by unfold cmpK; rw [if_neg (by omega), if_neg (by omega), if_neg (by omega), if_neg (by omega)]
theorem cmpK_anti (r i : Int) (t : ByteArray) (r' i' : Int) (t' : ByteArray) : cmpK r i t r' i' t' = - cmpK r' i' t' r i t := by
  by_cases h1 : r < r'
  · rw [cmpK_rlt h1, cmpK_rgt h1]
  by_cases h2 : r' < r
  · rw [cmpK_rgt h2, cmpK_rlt h2]; rfl
  obtain rfl : r = r' := by omega
  by_cases h3 : i < i'
  · rw [cmpK_ilt h3, cmpK_igt h3]
  by_cases h4 : i' < i
  · rw [cmpK_igt h4, cmpK_ilt h4]; rfl
  obtain rfl : i = i' := by omega
  rw [cmpK_t, cmpK_t]; exact cb_anti _ _
theorem cmpK_range (r i : Int) (t : ByteArray) (r' i' : Int) (t' : ByteArray) : cmpK r i t r' i' t' = -1 ∨ cmpK r i t r' i' t' = 0 ∨ cmpK r i t r' i' t' = 1 := by
  by_cases h1 : r < r'
  · exact .inl (cmpK_rlt h1)
  by_cases h2 : r' < r
  · exact .inr (.inr (cmpK_rgt h2))
  obtain rfl : r = r' := by omega
  by_cases h3 : i < i'
  · exact .inl (cmpK_ilt h3)
  by_cases h4 : i' < i
  · exact .inr (.inr (cmpK_igt h4))
  obtain rfl : i = i' := by omega
  rw [cmpK_t]; exact cb_range _ _
theorem cmpK_zero {r i r' i' : Int} {t t' : ByteArray} (h : cmpK r i t r' i' t' = 0) : r = r' ∧ i = i' ∧ t = t' := by
  by_cases h1 : r < r'
  · rw [cmpK_rlt h1] at h; cases h
  by_cases h2 : r' < r
  · rw [cmpK_rgt h2] at h; cases h
  obtain rfl : r = r' := by omega
  by_cases h3 : i < i'
  · rw [cmpK_ilt h3] at h; cases h
  by_cases h4 : i' < i
  · rw [cmpK_igt h4] at h; cases h
  obtain rfl : i = i' := by omega
  rw [cmpK_t] at h
  exact ⟨rfl, rfl, data_eq (cb_zero h)⟩
theorem cmpK_trans {r i r1 i1 r2 i2 : Int} {t t1 t2 : ByteArray} (h : cmpK r i t r1 i1 t1 ≤ 0) (h' : cmpK r1 i1 t1 r2 i2 t2 ≤ 0) : cmpK r i t r2 i2 t2 ≤ 0 := by
  by_cases a1 : r1 < r
  · rw [cmpK_rgt a1] at h; exact absurd h (by decide)
  by_cases a2 : r2 < r1
  · rw [cmpK_rgt a2] at h'; exact absurd h' (by decide)
  by_cases a3 : r < r2
  · rw [cmpK_rlt a3]; decide
  obtain rfl : r = r2 := by omega
  obtain rfl : r = r1 := by omega
  by_cases b1 : i1 < i
  · rw [cmpK_igt b1] at h; exact absurd h (by decide)
  by_cases b2 : i2 < i1
  · rw [cmpK_igt b2] at h'; exact absurd h' (by decide)
  by_cases b3 : i < i2
  · rw [cmpK_ilt b3]; decide
  obtain rfl : i = i2 := by omega
  obtain rfl : i = i1 := by omega
  rw [cmpK_t] at *
  exact cb_trans h h'
theorem rk_inj {k k' : Int} (h : 0 ≤ k ∧ k ≤ 4) (h' : 0 ≤ k' ∧ k' ≤ 4) (e : rk k = rk k') : k = k' := by
  unfold rk at e
  (repeat' split at e) <;> omega
theorem Good.range {k i : Int} {t : ByteArray} (h : Good k i t) : 0 ≤ k ∧ k ≤ 4 := by unfold Good at h; omega
theorem Good.blank {i : Int} {t : ByteArray} (h : Good 0 i t) : i = 0 ∧ t = no := by
  rcases h with h | h | h | h | h
  · exact ⟨h.2.1, h.2.2⟩
  all_goals exact absurd h.1 (by decide)
theorem Good.three {i : Int} {t : ByteArray} (h : Good 3 i t) : i = 0 ∧ t.size ≤ 32767 := by
  rcases h with h | h | h | h | h
  iterate 3 exact absurd h.1 (by decide)
  · exact h.2
  · exact absurd h.1 (by decide)
theorem Good.noText {k i : Int} {t : ByteArray} (h : Good k i t) (hk : k ≠ 3) : t = no := by
  rcases h with h | h | h | h | h
  · exact h.2.2
  · exact h.2
  · exact h.2.2
  · exact absurd h.1 hk
  · exact h.2.2
theorem besK_range {k k2 : Int} (h : 0 ≤ k ∧ k ≤ 4) (h' : 0 ≤ k2 ∧ k2 ≤ 4) : 0 ≤ besK k k2 ∧ besK k k2 ≤ 4 := by unfold besK; split <;> assumption
theorem rank_is {k : Int} (h : 0 ≤ k ∧ k ≤ 4) : CallIs 103 #[.int .i64 k] (.int .i64 (rk k)) := by
  obtain rfl | rfl | rfl | rfl | rfl : k = 0 ∨ k = 1 ∨ k = 2 ∨ k = 3 ∨ k = 4 := by omega
  · exact rank0
  · exact rank1
  · exact rank2
  · exact rank3
  · exact rank4
theorem bes_is {k i k2 i2 : Int} {t t2 : ByteArray} (g : Good k i t) : CallIs 101 #[vV k i t, vV k2 i2 t2] (vV (besK k k2) i t) := by
  by_cases h : k = 0
  · subst h
    obtain ⟨rfl, rfl⟩ := g.blank
    by_cases h4 : k2 = 4
    · subst h4; exact beside_err 0 i2 no t2
    · have e : besK 0 k2 = k2 := if_pos ⟨rfl, h4⟩
      rw [e]
      exact beside_kind 0 k2 i2 no t2 (beq_eq_false_iff_ne.2 h4)
  · have e : besK k k2 = k := if_neg (fun x => h x.1)
    rw [e]
    exact beside_self k i k2 i2 t t2 (by rw [bne, beq_eq_false_iff_ne.2 h]; rfl)
theorem bes_int {k i k2 : Int} {t : ByteArray} (g : Good k i t) (h : besK k k2 = 3) : i = 0 := by
  by_cases h0 : k = 0
  · subst h0; exact g.blank.1
  · have e : besK k k2 = k := if_neg (fun x => h0 x.1)
    rw [e] at h; subst h; exact g.three.1
theorem bes_txt {k i k2 : Int} {t : ByteArray} (g : Good k i t) (h : besK k k2 ≠ 3) : t = no := by
  by_cases h0 : k = 0
  · subst h0; exact g.blank.2
  · have e : besK k k2 = k := if_neg (fun x => h0 x.1)
    rw [e] at h; exact g.noText h
theorem cb_no : cb no.data.toList no.data.toList = 0 := rfl
theorem cmpK_i (r i i' : Int) : cmpK r i no r i' no = ord1 i i' := by
  by_cases h3 : i < i'
  · rw [cmpK_ilt h3, ord1_lt h3]
  by_cases h4 : i' < i
  · rw [cmpK_igt h4, ord1_gt h4]
  obtain rfl : i = i' := by omega
  rw [cmpK_t, ord1_eq rfl]; rfl
theorem vcmp_good {x0 x1 y0 y1 a0 a1 b0 b1 : Int} {x2 y2 a2 b2 : ByteArray} (ga : Good a0 a1 a2) (gb : Good b0 b1 b2) (HA : CallIs 95 #[vV x0 x1 x2] (vV a0 a1 a2)) (HB : CallIs 95 #[vV y0 y1 y2] (vV b0 b1 b2)) :
    CallIs 31 #[vV x0 x1 x2, vV y0 y1 y2] (.int .i64 (cmpV a0 a1 a2 b0 b1 b2)) := by
  have HX := bes_is (k2 := b0) (i2 := b1) (t2 := b2) ga
  have HY := bes_is (k2 := a0) (i2 := a1) (t2 := a2) gb
  have r1 := besK_range ga.range gb.range
  have r2 := besK_range gb.range ga.range
  unfold cmpV
  by_cases hk : besK a0 b0 = besK b0 a0
  · rw [← hk] at HY ⊢
    by_cases h3 : besK a0 b0 = 3
    · obtain rfl := bes_int ga h3
      obtain rfl := bes_int gb (hk ▸ h3)
      rw [h3] at HX HY ⊢
      rw [cmpK_t]
      exact vcmp_text _ _ _ _ _ _ _ _ _ _ _ _ _ _ _ _ _ HA HB HX HY (cmpS_is _ _)
    · obtain rfl := bes_txt ga h3
      obtain rfl := bes_txt gb (hk ▸ h3)
      rw [cmpK_i]
      exact vcmp_int _ _ _ _ _ _ _ _ _ _ _ _ (beq_eq_false_iff_ne.2 h3) _ _ _ _ _ _ HA HB HX HY (cmpL_is _ _)
  · have hr : rk (besK a0 b0) ≠ rk (besK b0 a0) := fun e => hk (rk_inj r1 r2 e)
    have e : cmpK (rk (besK a0 b0)) a1 a2 (rk (besK b0 a0)) b1 b2 = ord1 (rk (besK a0 b0)) (rk (besK b0 a0)) := by
      by_cases h1 : rk (besK a0 b0) < rk (besK b0 a0)
      · rw [cmpK_rlt h1, ord1_lt h1]
      · have h2 : rk (besK b0 a0) < rk (besK a0 b0) := by omega
        rw [cmpK_rgt h2, ord1_gt h2]
    rw [e]
    exact vcmp_diff _ _ _ _ _ _ _ _ _ _ _ _ _ _ _ (by rw [bne, beq_eq_false_iff_ne.2 hk]; rfl) _ _ _ _ _ _ HA HB HX HY (rank_is r1) (rank_is r2) (cmpI_is _ _)
theorem tl_ne {t t' : ByteArray} (h : ¬ t = t') : (t.toList == t'.toList) = false := by
  rw [beq_eq_false_iff_ne]; intro e
  rw [ByteArray.toList_eq, ByteArray.toList_eq] at e
  exact h (data_eq e)
theorem less_yes {t t' : ByteArray} (h : cb t.data.toList t'.data.toList = -1) : Op.bytesLess t.toList t'.toList = true := by
  rw [ByteArray.toList_eq, ByteArray.toList_eq, less_cb, h]; rfl
theorem less_no {t t' : ByteArray} (h : ¬ cb t.data.toList t'.data.toList = -1) : Op.bytesLess t.toList t'.toList = false := by
  rw [ByteArray.toList_eq, ByteArray.toList_eq, less_cb, decide_eq_false h]
theorem less_self (t : ByteArray) : Op.bytesLess t.toList t.toList = false := less_no (by rw [cb_self]; decide)
end Go.Proofs.YtgnmkhjilecdhaaGreatDoor
