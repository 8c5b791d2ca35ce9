/- What the law's own counting of pins answers, for every text; and of a written reference: its length, its pins, whether it is a place's text. -/
import Derived.Test.YtjhfjpofmkofhaaDoorForms
namespace Go.Proofs.YtjhfjpofmkofhaaDoor
open Go.RowKit
set_option linter.unusedVariables false

def pinsIn (l : List UInt8) : Nat := l.countP (· == 36)
theorem pinsIn_snoc (s : ByteArray) (k : Nat) (h : k < s.size) : pinsIn (s.data.toList.take (k + 1)) = pinsIn (s.data.toList.take k) + (if ((s[k].toNat : Int) == 36) then 1 else 0) := by
  unfold pinsIn
  rw [take_snoc s k h, List.countP_append, eq_36]; simp [List.countP_cons]
theorem pinsIn_le (s : ByteArray) (k : Nat) : pinsIn (s.data.toList.take k) ≤ k :=
  Nat.le_trans List.countP_le_length (List.length_take_le _ _)
set_option maxHeartbeats 400000 in
theorem dollars_any (s : ByteArray) (w : World) (hs : s.size ≤ maxLen) :
    Calls Tryd.prog 15 #[.string s] w fun e w' => e = .returned (.int .i64 (pinsIn s.data.toList)) ∧ w' = w := by
  unfold maxLen at hs
  go_enter Tryd.func15, Tryd.ntmps15
  go_wp2
  go_loop [3, 4] (fun n i => ∃ k v : Nat, k ≤ s.size ∧ v ≤ k ∧ i = .int .i64 k ∧ n = .int .i64 v ∧ Hid (v = pinsIn (s.data.toList.take k))) (fun _ i => s.size - (intOf i).toNat)
  case atStart => exact ⟨0, 0, Nat.zero_le _, Nat.le_refl _, rfl, rfl, rfl⟩
  case round =>
    obtain ⟨k, v, hk, hv, rfl, rfl, Hv⟩ := hrel
    by_cases hlt : k < s.size
    · have HS := hide (pinsIn_snoc s k hlt)
      cases hc : ((s[k].toNat : Int) == 36)
      · have HE : Hid (v = pinsIn (s.data.toList.take (k + 1))) := by rw [HS.out, hc, ← Hv.out]; rfl
        go_wp2
        go_round
        case rel => exact ⟨k + 1, v, by omega, by omega, by go_num, rfl, HE.out⟩
        case measure => simp [intOf]; omega
      · have HE : Hid (v + 1 = pinsIn (s.data.toList.take (k + 1))) := by rw [HS.out, hc, ← Hv.out]; rfl
        go_wp2
        go_round
        case rel => exact ⟨k + 1, v + 1, by omega, by omega, by go_num, by go_num, HE.out⟩
        case measure => simp [intOf]; omega
    · have HE : Hid (v = pinsIn s.data.toList) := by rw [← take_all s k (by omega)]; exact Hv.out
      go_wp2
      go_ret
      exact ⟨by rw [HE.out]; rfl, rfl⟩

def pinsOf (p q : Bool) : Nat := (if p then 1 else 0) + (if q then 1 else 0)
theorem pinsIn_L (L : List UInt8) (h : L.all isL = true) : pinsIn L = 0 := by
  unfold pinsIn
  rw [List.countP_eq_zero]
  intro x hx
  rw [List.all_eq_true] at h
  rw [isL_36 x (h x hx)]; decide
theorem pinsIn_D (L : List UInt8) (h : L.all dig = true) : pinsIn L = 0 := by
  unfold pinsIn
  rw [List.countP_eq_zero]
  intro x hx
  rw [List.all_eq_true] at h
  rw [dig_36 x (h x hx)]; decide
theorem pinsIn_pin (p : Bool) : pinsIn (pinL p) = if p then 1 else 0 := by cases p <;> rfl
theorem pinsIn_ref (r c : Nat) (p q : Bool) (h : c < 702) : pinsIn (refB r c p q).data.toList = pinsOf p q := by
  have e1 := pinsIn_L _ (letL_is c h).1
  have e2 := pinsIn_D _ (dgs_dec (r + 1))
  have e3 := pinsIn_pin p
  have e4 := pinsIn_pin q
  rw [refB_data r c p q h]
  unfold pinsIn at *
  rw [List.countP_append, List.countP_append, List.countP_append, e1, e2, e3, e4]
  unfold pinsOf; omega
theorem refB_size (r c : Nat) (p q : Bool) (h : c < 702) : (refB r c p q).size = (refB r c false false).size + pinsOf p q := by
  rw [Lib.size_eq, Lib.size_eq, refB_data r c p q h, refB_data r c false false h]
  simp only [List.length_append, pinL_len, pinsOf]
  cases p <;> cases q <;> simp <;> omega
theorem refB_bounds (r c : Nat) (p q : Bool) (hr : r < 65536) (h : c < 702) : 2 ≤ (refB r c p q).size ∧ (refB r c p q).size ≤ 24 := by
  rw [Lib.size_eq, refB_data r c p q h]
  have l1 := (letL_is c h).2.2.2.2
  have l2 := List.length_pos_iff.2 (letL_is c h).2.1
  have l3 := dec_pos (r + 1)
  have l4 := dec_len 18 (r + 1) (by omega)
  simp only [List.length_append, pinL_len]
  cases p <;> cases q <;> simp <;> omega
theorem plain_pinL (p : Bool) : plainL (pinL p) = !p := by cases p <;> rfl
theorem plain_D (L : List UInt8) (h : L.all dig = true) : plainL L = true := by
  unfold plainL
  rw [List.all_eq_true] at *
  intro x hx
  have hd := h x hx
  have h1 := dig_36 x hd
  have h2 : isS x = false := by simp [dig] at hd; simp [isS]; omega
  rw [h1, h2]; rfl
theorem plain_ref (r c : Nat) (p q : Bool) (h : c < 702) : plainL (refB r c p q).data.toList = (!p && !q) := by
  have e1 : plainL (letL c) = true := (letL_is c h).2.2.2.1
  have e2 := plain_D _ (dgs_dec (r + 1))
  have e3 := plain_pinL p
  have e4 := plain_pinL q
  rw [refB_data r c p q h]
  unfold plainL at *
  rw [List.all_append, List.all_append, List.all_append, e1, e2, e3, e4]
  cases p <;> cases q <;> rfl
theorem rdBad_ref (r c : Nat) (p q : Bool) (hr : r < 65536) (h : c < 702) : rdBad (refB r c p q) = (p || q) := by
  obtain ⟨e1, e2, e3, e4, e5, e6⟩ := read_ref (refB r c p q) r c p q [] hr h (by simp) rfl
  unfold rdBad
  rw [e1, e6, plain_ref r c p q h]
  cases p <;> cases q <;> simp
theorem head_ref (r c : Nat) (p q : Bool) (h : c < 702) (hz : 0 < (refB r c p q).size) : (((refB r c p q)[0].toNat : Int) == 36) = q := by
  have hd := refB_data r c p q h
  obtain ⟨y, hy⟩ := toList_cons _ hz
  rw [eq_36]
  rw [hy] at hd
  cases q
  · obtain ⟨h1, h2, _⟩ := letL_is c h
    cases hl : letL c with
    | nil => exact absurd hl h2
    | cons x r' =>
      rw [hl] at hd h1
      simp only [pinL, Bool.false_eq_true, if_false, List.nil_append, List.cons_append, List.cons.injEq] at hd
      rw [hd.1]
      simp only [List.all_cons, Bool.and_eq_true] at h1
      exact isL_36 x h1.1
  · simp only [pinL, if_true, List.cons_append, List.cons.injEq] at hd
    rw [hd.1]; rfl
end Go.Proofs.YtjhfjpofmkofhaaDoor
