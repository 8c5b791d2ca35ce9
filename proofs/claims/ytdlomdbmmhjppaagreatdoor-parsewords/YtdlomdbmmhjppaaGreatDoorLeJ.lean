/- Plain facts on the bytes of references: letters, digits, runs of them, columns and rows; no Go in sight. What the small functions of package spot answer, for every byte, text and place: proved of the Go text. -/
import Derived.Test.YtdlomdbmmhjppaaGreatDoorByJ
import Derived.WalkKit
import Derived.Test.YtdlomdbmmhjppaaGreatDoorRows
import Derived.WalkSpells
import Derived.WalkLawsBesides
namespace Go.Proofs.YtdlomdbmmhjppaaGreatDoor
open Go.RowKit

theorem ret_bool {a b : Bool} (h : a = b) : Ending.returned (.bool a) = .returned (.bool b) := by rw [h]
theorem ret_int {k : IntKind} {a b : Int} (h : a = b) : Ending.returned (.int k a) = .returned (.int k b) := by rw [h]

def isS (c : UInt8) : Bool := decide (97 ≤ c.toNat) && decide (c.toNat ≤ 122)
def isC (c : UInt8) : Bool := decide (65 ≤ c.toNat) && decide (c.toNat ≤ 90)
def isL (c : UInt8) : Bool := isC c || isS c
/-- Where the bytes of a sort end that stand at a place. -/
def runE (p : UInt8 → Bool) (s : ByteArray) (i : Nat) : Nat := i + ((s.data.toList.drop i).takeWhile p).length
/-- Where a text goes on behind the pin that may stand at a place. -/
def pinE (s : ByteArray) (i : Nat) : Nat := i + ((s.data.toList.drop i).take 1 |>.countP (· == 36))

theorem drop_cons (s : ByteArray) (i : Nat) (h : i < s.size) : s.data.toList.drop i = s[i] :: s.data.toList.drop (i + 1) := by
  rw [List.drop_eq_getElem_cons (by simpa using h)]; rfl
theorem drop_nil (s : ByteArray) (i : Nat) (h : s.size ≤ i) : s.data.toList.drop i = [] :=
  List.drop_of_length_le (by have := Lib.size_eq s; omega)
theorem runE_step (p : UInt8 → Bool) (s : ByteArray) (i : Nat) (h : i < s.size) (hp : p s[i] = true) : runE p s i = runE p s (i + 1) := by
  unfold runE; rw [drop_cons s i h, List.takeWhile_cons, if_pos hp, List.length_cons]; omega
theorem runE_stop (p : UInt8 → Bool) (s : ByteArray) (i : Nat) (h : i < s.size) (hp : p s[i] = false) : runE p s i = i := by
  unfold runE; rw [drop_cons s i h, List.takeWhile_cons, if_neg (by rw [hp]; decide)]; rfl
theorem runE_end (p : UInt8 → Bool) (s : ByteArray) (i : Nat) (h : s.size ≤ i) : runE p s i = i := by
  unfold runE; rw [drop_nil s i h]; rfl
theorem runE_ge (p : UInt8 → Bool) (s : ByteArray) (i : Nat) : i ≤ runE p s i := Nat.le_add_right _ _
theorem runE_le (p : UInt8 → Bool) (s : ByteArray) (i : Nat) (h : i ≤ s.size) : runE p s i ≤ s.size := by
  have h1 := (List.takeWhile_prefix p (l := s.data.toList.drop i)).length_le
  have h2 := Lib.size_eq s
  rw [List.length_drop] at h1
  unfold runE; omega
theorem pinE_end (s : ByteArray) (i : Nat) (h : s.size ≤ i) : pinE s i = i := by
  unfold pinE; rw [drop_nil s i h]; rfl
theorem pinE_at (s : ByteArray) (i : Nat) (h : i < s.size) : pinE s i = if s[i] = 36 then i + 1 else i := by
  unfold pinE; rw [drop_cons s i h]
  by_cases e : s[i] = 36 <;> simp [e]
theorem pinE_ge (s : ByteArray) (i : Nat) : i ≤ pinE s i := Nat.le_add_right _ _
theorem pinE_le1 (s : ByteArray) (i : Nat) : pinE s i ≤ i + 1 := by
  have h := List.countP_le_length (p := (· == (36 : UInt8))) (l := (s.data.toList.drop i).take 1)
  have h2 := List.length_take_le 1 (s.data.toList.drop i)
  unfold pinE; omega
theorem pinE_le (s : ByteArray) (i : Nat) (h : i ≤ s.size) : pinE s i ≤ s.size := by
  by_cases hi : i < s.size
  · have := pinE_le1 s i; omega
  · rw [pinE_end s i (by omega)]; exact h
theorem eq_36 (c : UInt8) : ((c.toNat : Int) == 36) = (c == 36) := by
  rw [Bool.eq_iff_iff, beq_iff_eq, beq_iff_eq, ← UInt8.toNat_inj]; simp; omega

/-- Which letter: A and a are 1. -/
def ltr (c : UInt8) : Nat := if isS c then c.toNat - 96 else c.toNat - 64
/-- The number of a row of letters, A being 1. -/
def col (l : List UInt8) : Nat := l.foldl (fun a c => a * 26 + ltr c) 0
theorem col_snoc (l : List UInt8) (c : UInt8) : col (l ++ [c]) = col l * 26 + ltr c := by simp [col]
theorem col_go (l : List UInt8) (a : Nat) : a ≤ l.foldl (fun a c => a * 26 + ltr c) a := by
  induction l generalizing a with
  | nil => exact Nat.le_refl _
  | cons c r ih => exact Nat.le_trans (by omega) (ih (a * 26 + ltr c))
theorem col_take (l : List UInt8) (k : Nat) : col (l.take k) ≤ col l := by
  conv => rhs; rw [← List.take_append_drop k l]
  unfold col
  rw [List.foldl_append]
  exact col_go _ _
def lts (l : List UInt8) : Bool := l.all isL
theorem lts_at (s : ByteArray) (k : Nat) (h : k < s.size) (hd : lts s.data.toList = true) : isL s[k] = true := by
  unfold lts at hd
  rw [List.all_eq_true] at hd
  exact hd s[k] (by rw [show s[k] = s.data.toList[k]'(by simpa using h) from rfl]; exact List.getElem_mem _)
theorem all_takeWhile (p : UInt8 → Bool) (l : List UInt8) : (l.takeWhile p).all p = true := by
  induction l with
  | nil => rfl
  | cons c r ih =>
    rw [List.takeWhile_cons]
    split
    · next h => rw [List.all_cons, h, ih]; rfl
    · rfl
/-- The bytes of a run, as the text between its ends. -/
theorem run_data (p : UInt8 → Bool) (s : ByteArray) (i : Nat) : (s.extract i (runE p s i)).data.toList = (s.data.toList.drop i).takeWhile p := by
  rw [Lib.extract_data]
  have h := List.takeWhile_prefix p (l := s.data.toList.drop i)
  rw [List.prefix_iff_eq_take.1 h]
  unfold runE
  congr 1
  omega
theorem run_all (p : UInt8 → Bool) (s : ByteArray) (i : Nat) : (s.extract i (runE p s i)).data.toList.all p = true := by
  rw [run_data]; exact all_takeWhile p _
def plainL (l : List UInt8) : Bool := l.all fun c => !(c == 36 || isS c)
theorem plain_step (s : ByteArray) (k : Nat) (h : k < s.size) (hd : plainL (s.data.toList.take k) = true) (h1 : ((s[k].toNat : Int) == 36) = false) (h2 : isS s[k] = false) : plainL (s.data.toList.take (k + 1)) = true := by
  rw [eq_36] at h1
  unfold plainL at *
  rw [take_snoc s k h, List.all_append, hd, List.all_cons, h1, h2]; rfl
theorem plain_not (s : ByteArray) (k : Nat) (h : k < s.size) (hc : (s[k] == 36 || isS s[k]) = true) : plainL s.data.toList = false := by
  unfold plainL
  rw [List.all_eq_false]
  exact ⟨s[k], by rw [show s[k] = s.data.toList[k]'(by simpa using h) from rfl]; exact List.getElem_mem _, by rw [hc]; decide⟩
theorem plain_pin (s : ByteArray) (k : Nat) (h : k < s.size) (h1 : ((s[k].toNat : Int) == 36) = true) : plainL s.data.toList = false :=
  plain_not s k h (by rw [eq_36] at h1; rw [h1]; rfl)
theorem plain_small (s : ByteArray) (k : Nat) (h : k < s.size) (h2 : isS s[k] = true) : plainL s.data.toList = false :=
  plain_not s k h (by rw [h2, Bool.or_true])
theorem ltr_small (c : UInt8) (h : isS c = true) : 97 ≤ c.toNat ∧ c.toNat ≤ 122 ∧ ltr c = c.toNat - 96 := by
  have e : ltr c = c.toNat - 96 := by unfold ltr; rw [if_pos h]
  simp [isS] at h
  exact ⟨h.1, h.2, e⟩
theorem ltr_cap (c : UInt8) (hl : isL c = true) (h : isS c = false) : 65 ≤ c.toNat ∧ c.toNat ≤ 90 ∧ ltr c = c.toNat - 64 := by
  have e : ltr c = c.toNat - 64 := by unfold ltr; rw [if_neg (by rw [h]; decide)]
  unfold isL at hl
  rw [h, Bool.or_false] at hl
  simp [isC] at hl
  exact ⟨hl.1, hl.2, e⟩
end Go.Proofs.YtdlomdbmmhjppaaGreatDoor
namespace Go.Proofs.YtdlomdbmmhjppaaGreatDoor
open Go.RowKit
set_option linter.unusedVariables false

theorem isSmall_any (c : UInt8) (w : World) : Calls Tryz.prog 200 #[.int .u8 c.toNat] w fun e w' => e = .returned (.bool (isS c)) ∧ w' = w := by
  by_cases h1 : 97 ≤ (c.toNat : Int)
  · by_cases h2 : (c.toNat : Int) ≤ 122
    · go_enter Tryz.func200, Tryz.ntmps200
      go_wp2
      go_ret
      exact ⟨ret_bool (by simp [isS]; omega), rfl⟩
    · go_enter Tryz.func200, Tryz.ntmps200
      go_wp2
      go_ret
      exact ⟨ret_bool (by simp [isS]; omega), rfl⟩
  · go_enter Tryz.func200, Tryz.ntmps200
    go_wp2
    go_ret
    exact ⟨ret_bool (by simp [isS]; omega), rfl⟩
theorem isDigit_any (c : UInt8) (w : World) : Calls Tryz.prog 174 #[.int .u8 c.toNat] w fun e w' => e = .returned (.bool (dig c)) ∧ w' = w := by
  by_cases h1 : 48 ≤ (c.toNat : Int)
  · by_cases h2 : (c.toNat : Int) ≤ 57
    · go_enter Tryz.func174, Tryz.ntmps174
      go_wp2
      go_ret
      exact ⟨ret_bool (by simp [dig]; omega), rfl⟩
    · go_enter Tryz.func174, Tryz.ntmps174
      go_wp2
      go_ret
      exact ⟨ret_bool (by simp [dig]; omega), rfl⟩
  · go_enter Tryz.func174, Tryz.ntmps174
    go_wp2
    go_ret
    exact ⟨ret_bool (by simp [dig]; omega), rfl⟩
theorem isLetter_any (c : UInt8) (w : World) : Calls Tryz.prog 173 #[.int .u8 c.toNat] w fun e w' => e = .returned (.bool (isL c)) ∧ w' = w := by
  by_cases h1 : 65 ≤ (c.toNat : Int)
  · by_cases h2 : (c.toNat : Int) ≤ 90
    · go_enter Tryz.func173, Tryz.ntmps173
      go_wp2
      go_ret
      exact ⟨ret_bool (by simp [isL, isC]; omega), rfl⟩
    · go_enter Tryz.func173, Tryz.ntmps173
      go_wp2_with (go_at_call 200; refine (isSmall_any c _).mono ?_; rintro e w' ⟨rfl, rfl⟩)
      go_ret
      exact ⟨ret_bool (by simp [isL, isC]; omega), rfl⟩
  · go_enter Tryz.func173, Tryz.ntmps173
    go_wp2_with (go_at_call 200; refine (isSmall_any c _).mono ?_; rintro e w' ⟨rfl, rfl⟩)
    go_ret
    exact ⟨ret_bool (by simp [isL, isC]; omega), rfl⟩
theorem behindPin_any (s : ByteArray) (i : Nat) (w : World) (hs : s.size ≤ maxLen) (hi : i ≤ s.size) :
    Calls Tryz.prog 171 #[.string s, .int .i64 i] w fun e w' => e = .returned (.int .i64 (pinE s i)) ∧ w' = w := by
  unfold maxLen at hs
  by_cases h : i < s.size
  · have HP := hide (pinE_at s i h)
    cases h1 : ((s[i].toNat : Int) == 36)
    · have HQ : Hid (pinE s i = i) := by rw [eq_36] at h1; rw [HP.out, if_neg (by simpa using h1)]; rfl
      go_enter Tryz.func171, Tryz.ntmps171
      go_wp2
      go_ret
      rw [HQ.out]
      exact ⟨rfl, rfl⟩
    · have HQ : Hid (pinE s i = i + 1) := by rw [eq_36] at h1; rw [HP.out, if_pos (by simpa using h1)]; rfl
      go_enter Tryz.func171, Tryz.ntmps171
      go_wp2
      go_ret
      rw [HQ.out]
      exact ⟨rfl, rfl⟩
  · have HQ := hide (pinE_end s i (by omega))
    go_enter Tryz.func171, Tryz.ntmps171
    go_wp2
    go_ret
    rw [HQ.out]
    exact ⟨rfl, rfl⟩
end Go.Proofs.YtdlomdbmmhjppaaGreatDoor
