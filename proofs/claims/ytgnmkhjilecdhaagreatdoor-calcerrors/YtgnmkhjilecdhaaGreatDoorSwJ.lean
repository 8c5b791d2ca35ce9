/- A text put in the place of another one, from the left: of no program. What the reference's tail and Rune answer, for every text and place: the rune that the model's own decoding gives. Proved of the Go text. What runes.Swap answers, for every three texts: proved of the Go text, strings.Count and strings.ReplaceAll by their contracts. -/
import Derived.Test.YtgnmkhjilecdhaaGreatDoorK5J
import Derived.Lib.Replace
import Derived.Lib.ReplaceLaws
import Derived.Test.YtgnmkhjilecdhaaGreatDoorCase5
import Derived.Lib.DecodeN
import Derived.Deep.QuietTactic
import Derived.Test.YtgnmkhjilecdhaaGreatDoorTimes5
namespace Go.Proofs.YtgnmkhjilecdhaaGreatDoor.T5
set_option linter.unusedVariables false
set_option maxRecDepth 100000

/-- Byte by byte, n of them at most. -/
def sw (old new : List UInt8) : Nat → List UInt8 → List UInt8
  | 0, l => l
  | _ + 1, [] => []
  | f + 1, c :: l => if old.isPrefixOf (c :: l) then new ++ sw old new f ((c :: l).drop old.length) else c :: sw old new f l
theorem sw_fuel (old new : List UInt8) (ho : old ≠ []) : ∀ f l, l.length ≤ f → ∀ f', l.length ≤ f' → sw old new f l = sw old new f' l
  | 0, [], _, 0, _ => rfl
  | 0, [], _, f' + 1, _ => rfl
  | f + 1, [], _, 0, _ => rfl
  | f + 1, [], _, f' + 1, _ => rfl
  | 0, c :: l, h, _, _ => by simp at h
  | f + 1, c :: l, _, 0, h => by simp at h
  | f + 1, c :: l, h, f' + 1, h' => by
    have hp : 0 < old.length := List.length_pos_iff.2 ho
    rw [sw, sw]
    simp only [List.length_cons] at h h'
    split
    · rw [sw_fuel old new ho f _ (by rw [List.length_drop, List.length_cons]; omega) f' (by rw [List.length_drop, List.length_cons]; omega)]
    · rw [sw_fuel old new ho f l (by omega) f' (by omega)]
/-- The whole text so. -/
def swL (old new l : List UInt8) : List UInt8 := sw old new l.length l
theorem swL_nil (old new : List UInt8) : swL old new [] = [] := rfl
theorem swL_hit {old new l : List UInt8} (ho : old ≠ []) (h : old.isPrefixOf l = true) : swL old new l = new ++ swL old new (l.drop old.length) := by
  have hp : 0 < old.length := List.length_pos_iff.2 ho
  cases l with
  | nil => cases old with
    | nil => exact absurd rfl ho
    | cons a t => simp at h
  | cons c l =>
    unfold swL
    rw [List.length_cons, sw, if_pos h, sw_fuel old new ho _ _ (by rw [List.length_drop, List.length_cons]; omega) _ (Nat.le_refl _)]
theorem swL_miss {old new : List UInt8} {c : UInt8} {l : List UInt8} (h : old.isPrefixOf (c :: l) = false) : swL old new (c :: l) = c :: swL old new l := by
  unfold swL
  rw [List.length_cons, sw, if_neg (by simp [h])]
open Go.Lib in
theorem rep_is (old new : List UInt8) (ho : old ≠ []) : ∀ n l, l.length ≤ n → replaceK old new (count l old) l = swL old new l
  | n, [], _ => by
    have : index ([] : List UInt8) old = -1 := by cases old with
      | nil => exact absurd rfl ho
      | cons a t => rfl
    rw [count_miss this]; rfl
  | 0, c :: l, h => by simp at h
  | n + 1, c :: l, h => by
    have hp : 0 < old.length := List.length_pos_iff.2 ho
    simp only [List.length_cons] at h
    cases hx : old.isPrefixOf (c :: l) with
    | true =>
      have h0 : index (c :: l) old = (0 : Nat) := by unfold index; rw [if_pos hx]; rfl
      rw [count_hit ho h0, Nat.add_comm 1, replaceK_hit old new _ _ 0 h0, swL_hit ho hx, Nat.zero_add]
      rw [rep_is old new ho n _ (by rw [List.length_drop, List.length_cons]; omega)]
      simp
    | false =>
      have ih := rep_is old new ho n l (by omega)
      rw [swL_miss hx, ← ih]
      have hi : index (c :: l) old = if index l old == -1 then -1 else index l old + 1 := by rw [index, if_neg (by simp [hx])]
      rcases index_spec l old with ⟨h1, _⟩ | ⟨i, h1, h2, _⟩
      · have h3 : index (c :: l) old = -1 := by rw [hi, h1]; rfl
        rw [count_miss h1, count_miss h3]; rfl
      · have h3 : index (c :: l) old = ((i + 1 : Nat) : Int) := by
          rw [hi, h1]
          have : ((i : Int) == -1) = false := by rw [beq_eq_false_iff_ne]; omega
          rw [this]; simp
        rw [count_hit ho h1, count_hit ho h3, Nat.add_comm 1, Nat.add_comm 1, replaceK_hit old new _ _ i h1, replaceK_hit old new _ _ (i + 1) h3]
        simp [List.take_succ_cons, show i + 1 + old.length = (i + old.length) + 1 by omega]
open Go.Lib in
theorem swL_len (old new : List UInt8) (ho : old ≠ []) : ∀ n l, l.length ≤ n → (swL old new l).length + count l old * old.length = l.length + count l old * new.length
  | n, [], _ => by
    have : index ([] : List UInt8) old = -1 := by cases old with
      | nil => exact absurd rfl ho
      | cons a t => rfl
    rw [count_miss this]; simp [swL_nil]
  | 0, c :: l, h => by simp at h
  | n + 1, c :: l, h => by
    have hp : 0 < old.length := List.length_pos_iff.2 ho
    simp only [List.length_cons] at h
    cases hx : old.isPrefixOf (c :: l) with
    | true =>
      have h0 : index (c :: l) old = (0 : Nat) := by unfold index; rw [if_pos hx]; rfl
      have hlen : old.length ≤ (c :: l).length := (List.isPrefixOf_iff_prefix.1 hx).length_le
      have ih := swL_len old new ho n ((c :: l).drop old.length) (by rw [List.length_drop, List.length_cons]; omega)
      rw [count_hit ho h0, Nat.zero_add, swL_hit ho hx, List.length_append]
      rw [List.length_drop] at ih
      rw [Nat.add_mul, Nat.add_mul, Nat.one_mul, Nat.one_mul]
      omega
    | false =>
      have ih := swL_len old new ho n l (by omega)
      have hi : index (c :: l) old = if index l old == -1 then -1 else index l old + 1 := by rw [index, if_neg (by simp [hx])]
      have hcnt : count (c :: l) old = count l old := by
        rcases index_spec l old with ⟨h1, _⟩ | ⟨i, h1, h2, _⟩
        · have h3 : index (c :: l) old = -1 := by rw [hi, h1]; rfl
          rw [count_miss h1, count_miss h3]
        · have h3 : index (c :: l) old = ((i + 1 : Nat) : Int) := by
            rw [hi, h1]
            have : ((i : Int) == -1) = false := by rw [beq_eq_false_iff_ne]; omega
            rw [this]; simp
          rw [count_hit ho h1, count_hit ho h3]
          simp [show i + 1 + old.length = (i + old.length) + 1 by omega]
      rw [swL_miss hx, hcnt, List.length_cons, List.length_cons]
      omega
theorem swL_same (old : List UInt8) (ho : old ≠ []) : ∀ n l, l.length ≤ n → swL old old l = l
  | n, [], _ => rfl
  | 0, c :: l, h => by simp at h
  | n + 1, c :: l, h => by
    have hp : 0 < old.length := List.length_pos_iff.2 ho
    simp only [List.length_cons] at h
    cases hx : old.isPrefixOf (c :: l) with
    | true =>
      rw [swL_hit ho hx, swL_same old ho n _ (by rw [List.length_drop, List.length_cons]; omega)]
      obtain ⟨r, hr⟩ := List.isPrefixOf_iff_prefix.1 hx
      rw [← hr, List.drop_left]
    | false => rw [swL_miss hx, swL_same old ho n l (by omega)]
open Go.Lib in
/-- strings.ReplaceAll, as the library's contract words it, is that. -/
theorem all_is (old new l : List UInt8) (ho : old ≠ []) : replaceAll l old new = swL old new l := by
  unfold replaceAll replace
  by_cases h : (old == new) = true
  · have : old = new := by simpa using h
    rw [if_pos h, ← this, swL_same old ho _ l (Nat.le_refl _)]
  · rw [if_neg h]
    unfold replaceNum
    rw [if_pos (.inl (by decide))]
    exact rep_is old new ho _ l (Nat.le_refl _)
/-- The text so. -/
def swB (s old new : ByteArray) : ByteArray := ⟨(swL old.data.toList new.data.toList s.data.toList).toArray⟩
theorem ne_of_size {t : ByteArray} (h : 0 < t.size) : t.data.toList ≠ [] := by
  intro e
  have := Lib.size_eq t
  rw [e, List.length_nil] at this
  omega
end Go.Proofs.YtgnmkhjilecdhaaGreatDoor.T5
namespace Go.Proofs.YtgnmkhjilecdhaaGreatDoor.T5
open Go.RowKit Go.Sort
set_option linter.unusedVariables false
set_option maxRecDepth 100000

theorem below_drewN {B : Nat} {a w : World} (h : Below B a w) (n : Nat) : Below B a (w.drewN n) := ⟨h.os, h.tape, h.output, h.size, h.block⟩
theorem ret_two {k l : IntKind} {a b c d : Int} (h1 : a = c) (h2 : b = d) : Ending.returned (.tuple #[.int k a, .int l b]) = .returned (.tuple #[.int k c, .int l d]) := by rw [h1, h2]
/-- Is there a byte from lo to hi at j? -/
def tl (s : ByteArray) (j lo hi : Nat) : Bool := decide (j < s.size ∧ lo ≤ byt s j ∧ byt s j ≤ hi)
theorem byt_at (s : ByteArray) (j : Nat) (h : j < s.size) : byt s j = s[j].toNat := by
  unfold byt
  have hl : j < s.data.toList.length := by rw [← Lib.size_eq]; exact h
  simp [List.getD, List.getElem?_eq_getElem hl]; rfl
theorem tm (a m : Nat) : (a : Int).tmod m = ((a % m : Nat) : Int) := by rw [Int.tmod_eq_emod_of_nonneg (by omega)]; rfl
theorem w_in (x : Nat) (h : x < 9223372036854775808) : wrap64 (x : Int) = x := IntWalk.wrap64_in _ ⟨by omega, by omega⟩
theorem cl3 (a b c : Nat) (ha : a < 256) (hb : b < 256) (hc : c < 256) : wrap64 (wrap64 ((a : Int) % 16 * 4096 + wrap64 ((wrap64 (b : Int)).tmod 64 * 64)) + (wrap64 (c : Int)).tmod 64) = ((a % 16 * 4096 + b % 64 * 64 + c % 64 : Nat) : Int) := by
  rw [w_in b (by omega), w_in c (by omega), show (b : Int).tmod 64 = ((b % 64 : Nat) : Int) from tm b 64, show (c : Int).tmod 64 = ((c % 64 : Nat) : Int) from tm c 64,
    show ((b % 64 : Nat) : Int) * 64 = ((b % 64 * 64 : Nat) : Int) by omega, w_in _ (by omega), show (a : Int) % 16 * 4096 + ((b % 64 * 64 : Nat) : Int) = ((a % 16 * 4096 + b % 64 * 64 : Nat) : Int) by omega, w_in _ (by omega),
    show ((a % 16 * 4096 + b % 64 * 64 : Nat) : Int) + ((c % 64 : Nat) : Int) = ((a % 16 * 4096 + b % 64 * 64 + c % 64 : Nat) : Int) by omega, w_in _ (by omega)]
theorem cl4 (a b c d : Nat) (ha : a < 256) (hb : b < 256) (hc : c < 256) (hd : d < 256) : wrap64 (wrap64 (wrap64 ((a : Int) % 8 * 262144 + wrap64 ((wrap64 (b : Int)).tmod 64 * 4096)) + wrap64 ((wrap64 (c : Int)).tmod 64 * 64)) + (wrap64 (d : Int)).tmod 64) = ((a % 8 * 262144 + b % 64 * 4096 + c % 64 * 64 + d % 64 : Nat) : Int) := by
  rw [w_in b (by omega), w_in c (by omega), w_in d (by omega), show (b : Int).tmod 64 = ((b % 64 : Nat) : Int) from tm b 64, show (c : Int).tmod 64 = ((c % 64 : Nat) : Int) from tm c 64, show (d : Int).tmod 64 = ((d % 64 : Nat) : Int) from tm d 64,
    show ((b % 64 : Nat) : Int) * 4096 = ((b % 64 * 4096 : Nat) : Int) by omega, w_in (b % 64 * 4096) (by omega), show ((c % 64 : Nat) : Int) * 64 = ((c % 64 * 64 : Nat) : Int) by omega, w_in (c % 64 * 64) (by omega),
    show (a : Int) % 8 * 262144 + ((b % 64 * 4096 : Nat) : Int) = ((a % 8 * 262144 + b % 64 * 4096 : Nat) : Int) by omega, w_in _ (by omega),
    show ((a % 8 * 262144 + b % 64 * 4096 : Nat) : Int) + ((c % 64 * 64 : Nat) : Int) = ((a % 8 * 262144 + b % 64 * 4096 + c % 64 * 64 : Nat) : Int) by omega, w_in _ (by omega),
    show ((a % 8 * 262144 + b % 64 * 4096 + c % 64 * 64 : Nat) : Int) + ((d % 64 : Nat) : Int) = ((a % 8 * 262144 + b % 64 * 4096 + c % 64 * 64 + d % 64 : Nat) : Int) by omega, w_in _ (by omega)]
end Go.Proofs.YtgnmkhjilecdhaaGreatDoor.T5
namespace Go.Proofs.YtgnmkhjilecdhaaGreatDoor.T5
open Go.RowKit Go.Sort
set_option linter.unusedVariables false
set_option maxRecDepth 100000

theorem swap_empty (s new : ByteArray) : CallIs 73 #[.string s, .string no, .string new] (.tuple #[.string s, .int .i64 0]) := by
  intro w
  go_enter Tryz.func73, Tryz.ntmps73
  go_wp2_with fail
  go_ret2
  exact ⟨rfl, Below.refl _ _⟩
theorem swB_size (s old new : ByteArray) (h : 0 < old.size) : (swB s old new).size + Lib.countB s old * old.size = s.size + Lib.countB s old * new.size := by
  have := swL_len old.data.toList new.data.toList (ne_of_size h) _ s.data.toList (Nat.le_refl _)
  rw [← Lib.size_eq, ← Lib.size_eq, ← Lib.size_eq] at this
  show (swL _ _ _).toArray.size + _ = _
  rw [List.size_toArray]
  exact this
set_option maxHeartbeats 1000000 in
theorem swap_any (s old new : ByteArray) (h1 : s.size ≤ 200000) (h2 : old.size ≤ 200000) (h3 : new.size ≤ 200000) (h0 : 0 < old.size) :
    CallT 73 #[.string s, .string old, .string new] (if (swB s old new).size > 32767 then .tuple #[.string no, .int .i64 2] else .tuple #[.string (swB s old new), .int .i64 0]) := by
  intro w hT
  have hcl := Lib.countB_le old (by omega) s.size s (Nat.le_refl _)
  have hz := swB_size s old new h0
  have HC : Hid (∀ w, Tab w → Calls Tryz.prog 114 #[.string s, .string old] w fun e w' => e = .returned (.int .i64 (Lib.countB s old)) ∧ w' = w) := hide fun w ⟨m, hm⟩ => Tryz.strings_Count_any s old m w (by omega) hm (by omega)
  have hA : Lib.countB s old * new.size ≤ 200000 * 200000 := Nat.mul_le_mul (by omega) h3
  have hBd : Lib.countB s old * old.size ≤ 200000 * 200000 := Nat.mul_le_mul (by omega) h2
  have HR : CallT 115 #[.string s, .string old, .string new] (.string (swB s old new)) := by
    rintro w ⟨m, hm⟩
    have := Tryz.strings_ReplaceAll s old new m w (by omega) hm (by omega) (by omega)
    rw [all_is _ _ _ (ne_of_size h0)] at this
    exact this
  have hmul : ((Lib.countB s old : Nat) : Int) * ((new.size : Int) - old.size) = ((Lib.countB s old * new.size : Nat) : Int) - ((Lib.countB s old * old.size : Nat) : Int) := by rw [Int.mul_sub]; push_cast; rfl
  generalize Lib.countB s old * new.size = P at *
  generalize Lib.countB s old * old.size = M at *
  generalize Lib.countB s old = n at *
  generalize swB s old new = R at *
  have a1 := toList_ne h0
  have a2 := full2 h0
  have a3 := full3 h0
  replace hT := hide hT
  have wa : Hid (wrap64 ((new.size : Int) - old.size) = (new.size : Int) - old.size) := hide (IntWalk.wrap64_in _ ⟨by omega, by omega⟩)
  have wb : Hid (wrap64 ((P : Int) - M) = (P : Int) - M) := hide (IntWalk.wrap64_in _ ⟨by omega, by omega⟩)
  have wc : Hid (wrap64 ((s.size : Int) + ((P : Int) - M)) = (R.size : Int)) := hide (by rw [IntWalk.wrap64_in _ ⟨by omega, by omega⟩]; omega)
  have wd : Hid ((s.size : Int) + ((P : Int) - M) = (R.size : Int)) := hide (by omega)
  replace hz := hide hz
  by_cases hl : R.size > 32767
  · rw [if_pos hl]
    have b1 : (R.size : Int) > 32767 := by omega
    clear hA hBd hcl
    have wa := wa.out
    have wb := wb.out
    have wc := wc.out
    go_enter Tryz.func73, Tryz.ntmps73
    go_wp2_with (go_at_call 114; refine (HC.out _ hT.out).mono ?_; rintro e w' ⟨rfl, rfl⟩)
    go_ret2
    exact ⟨rfl, Below.refl _ _⟩
  · rw [if_neg hl]
    have b1 : ¬ (R.size : Int) > 32767 := by omega
    clear hA hBd hcl
    have wa := wa.out
    have wb := wb.out
    have wc := wc.out
    go_enter Tryz.func73, Tryz.ntmps73
    go_wp2_with (first | (go_at_call 114; refine (HC.out _ hT.out).mono ?_; rintro e w' ⟨rfl, rfl⟩) | (go_at_call 115; refine (HR.out _ hT.out).mono ?_; rintro e w1 ⟨rfl, hb⟩))
    go_ret2
    exact ⟨rfl, hb⟩
end Go.Proofs.YtgnmkhjilecdhaaGreatDoor.T5
