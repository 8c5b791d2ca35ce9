/- Plain facts: a text that is made of a pin or none, letters, a pin or none, digits and a rest that opens with no digit is read as just that reference; a written reference is such a text; no Go in sight. -/
import Derived.Test.YtbpogngnhhkjbaaDoorRuJ
namespace Go.Proofs.YtbpogngnhhkjbaaDoor
open Go.RowKit
set_option linter.unusedVariables false

def pinL (p : Bool) : List UInt8 := if p then [36] else []
/-- A text's first byte, if there is one, is not of the sort. -/
def stops (p : UInt8 → Bool) : List UInt8 → Bool
  | [] => true
  | c :: _ => !p c
theorem takeWhile_stop (p : UInt8 → Bool) (L X : List UInt8) (h : L.all p = true) (hx : stops p X = true) : (L ++ X).takeWhile p = L := by
  induction L with
  | nil =>
    cases X with
    | nil => rfl
    | cons c r => rw [List.nil_append, List.takeWhile_cons, if_neg (by simpa [stops] using hx)]
  | cons c r ih =>
    rw [List.all_cons, Bool.and_eq_true] at h
    rw [List.cons_append, List.takeWhile_cons, if_pos h.1, ih h.2]
theorem pinL_len (p : Bool) : (pinL p).length = if p then 1 else 0 := by cases p <;> rfl
theorem pin_count (p : Bool) (X : List UInt8) (hx : stops (· == 36) X = true) : ((pinL p ++ X).take 1).countP (· == 36) = (pinL p).length := by
  cases p
  · cases X with
    | nil => rfl
    | cons c r =>
      have h : (c == 36) = false := by simpa [stops] using hx
      simp [pinL, h]
  · simp [pinL]
theorem isL_36 (c : UInt8) (h : isL c = true) : (c == 36) = false := by
  rw [beq_eq_false_iff_ne]; rintro rfl; revert h; decide
theorem dig_36 (c : UInt8) (h : dig c = true) : (c == 36) = false := by
  rw [beq_eq_false_iff_ne]; rintro rfl; revert h; decide
theorem dig_isL (c : UInt8) (h : dig c = true) : isL c = false := by
  simp [dig] at h
  simp [isL, isC, isS]; omega
theorem stops_L (L X : List UInt8) (h : L.all isL = true) (h0 : L ≠ []) : stops (· == 36) (L ++ X) = true := by
  cases L with
  | nil => exact absurd rfl h0
  | cons c r =>
    rw [List.all_cons, Bool.and_eq_true] at h
    simp [stops, isL_36 c h.1]
theorem stops_D (D X : List UInt8) (h : D.all dig = true) (h0 : D ≠ []) : stops (· == 36) (D ++ X) = true := by
  cases D with
  | nil => exact absurd rfl h0
  | cons c r =>
    rw [List.all_cons, Bool.and_eq_true] at h
    simp [stops, dig_36 c h.1]
theorem stops_pinD (p : Bool) (D X : List UInt8) (h : D.all dig = true) (h0 : D ≠ []) : stops isL (pinL p ++ (D ++ X)) = true := by
  cases p
  · cases D with
    | nil => exact absurd rfl h0
    | cons c r =>
      rw [List.all_cons, Bool.and_eq_true] at h
      simp [pinL, stops, dig_isL c h.1]
  · simp [pinL, stops, isL, isC, isS]

/-- What a text of that make is read as. -/
structure Made (s : ByteArray) (q : Bool) (L : List UInt8) (p : Bool) (D X : List UInt8) : Prop where
  data : s.data.toList = pinL q ++ (L ++ (pinL p ++ (D ++ X)))
  ls : L.all isL = true
  l0 : L ≠ []
  ds : D.all dig = true
  d0 : D ≠ []
  lead : lead0 D = false
  rest : stops dig X = true
theorem Made.cuts {s : ByteArray} {q p : Bool} {L D X : List UInt8} (h : Made s q L p D X) :
    cA s = (pinL q).length ∧ cB s = (pinL q).length + L.length ∧ cC s = (pinL q).length + L.length + (pinL p).length ∧ cD s = (pinL q).length + L.length + (pinL p).length + D.length := by
  have e1 : cA s = (pinL q).length := by
    unfold cA pinE
    rw [h.data, List.drop_zero, pin_count q _ (stops_L L _ h.ls h.l0)]; omega
  have d1 : s.data.toList.drop (pinL q).length = L ++ (pinL p ++ (D ++ X)) := by rw [h.data, List.drop_left]
  have e2 : cB s = (pinL q).length + L.length := by
    unfold cB runE
    rw [e1, d1, takeWhile_stop isL L _ h.ls (stops_pinD p D X h.ds h.d0)]
  have d2 : s.data.toList.drop ((pinL q).length + L.length) = pinL p ++ (D ++ X) := by rw [← List.drop_drop, d1, List.drop_left]
  have e3 : cC s = (pinL q).length + L.length + (pinL p).length := by
    unfold cC pinE
    rw [e2, d2, pin_count p _ (stops_D D X h.ds h.d0)]
  have d3 : s.data.toList.drop ((pinL q).length + L.length + (pinL p).length) = D ++ X := by rw [← List.drop_drop, d2, List.drop_left]
  have e4 : cD s = (pinL q).length + L.length + (pinL p).length + D.length := by
    unfold cD runE
    rw [e3, d3, takeWhile_stop dig D X h.ds h.rest]
  exact ⟨e1, e2, e3, e4⟩
theorem Made.drops {s : ByteArray} {q p : Bool} {L D X : List UInt8} (h : Made s q L p D X) :
    s.data.toList.drop (cA s) = L ++ (pinL p ++ (D ++ X)) ∧ s.data.toList.drop (cC s) = D ++ X := by
  obtain ⟨e1, e2, e3, e4⟩ := h.cuts
  have d1 : s.data.toList.drop (pinL q).length = L ++ (pinL p ++ (D ++ X)) := by rw [h.data, List.drop_left]
  have d2 : s.data.toList.drop ((pinL q).length + L.length) = pinL p ++ (D ++ X) := by rw [← List.drop_drop, d1, List.drop_left]
  have d3 : s.data.toList.drop ((pinL q).length + L.length + (pinL p).length) = D ++ X := by rw [← List.drop_drop, d2, List.drop_left]
  rw [e1, e3]
  exact ⟨d1, d3⟩
theorem Made.is {s : ByteArray} {q p : Bool} {L D X : List UInt8} (h : Made s q L p D X) :
    synS s = false ∧ colS s = col L ∧ rowS s = val D ∧ decide (cB s < cC s) = p ∧ decide (0 < cA s) = q := by
  obtain ⟨e1, e2, e3, e4⟩ := h.cuts
  obtain ⟨d1, d3⟩ := h.drops
  have hl := List.length_pos_iff.2 h.l0
  have hd := List.length_pos_iff.2 h.d0
  refine ⟨?_, ?_, ?_, ?_, ?_⟩
  · unfold synS
    rw [d3]
    have hz : lead0 (D ++ X) = false := by
      have hl0 := h.lead
      have hd0 := h.d0
      cases D with
      | nil => exact absurd rfl hd0
      | cons c r => exact hl0
    rw [hz]
    simp; omega
  · unfold colS
    rw [Lib.extract_data, d1, show cB s - cA s = L.length by omega, List.take_left]
  · unfold rowS
    rw [Lib.extract_data, d3, show cD s - cC s = D.length by omega, List.take_left]
  · rw [e2, e3, pinL_len p]; cases p <;> simp
  · rw [e1, pinL_len q]; cases q <;> simp
/-- On the grid. -/
theorem Made.on {s : ByteArray} {q p : Bool} {L D X : List UInt8} (h : Made s q L p D X) (hc : col L ≤ 702) (hr : val D ≤ 65536) :
    rE s = 0 ∧ rR s = (val D : Int) - 1 ∧ rC s = (col L : Int) - 1 ∧ rP s = p ∧ rQ s = q ∧ rN s = (pinL q).length + L.length + (pinL p).length + D.length := by
  obtain ⟨h1, h2, h3, h4, h5⟩ := h.is
  have ho : offS s = false := by unfold offS; rw [h2, h3]; simp; omega
  unfold rE rR rC rP rQ rN
  rw [h1, ho, h2, h3, h4, h5, h.cuts.2.2.2]
  simp
/-- Off the grid. -/
theorem Made.off {s : ByteArray} {q p : Bool} {L D X : List UInt8} (h : Made s q L p D X) (ho : 702 < col L ∨ 65536 < val D) :
    rE s = 10 ∧ rR s = 0 ∧ rC s = 0 ∧ rP s = false ∧ rQ s = false ∧ rN s = (pinL q).length + L.length + (pinL p).length + D.length := by
  obtain ⟨h1, h2, h3, h4, h5⟩ := h.is
  have ho : offS s = true := by unfold offS; rw [h2, h3]; simpa using ho
  unfold rE rR rC rP rQ rN
  rw [h1, ho, h.cuts.2.2.2]
  simp

def ltrOf (n : Nat) : UInt8 := UInt8.ofNat (65 + n)
def letL (c : Nat) : List UInt8 := if c < 26 then [ltrOf c] else [ltrOf (c / 26 - 1), ltrOf (c % 26)]
theorem ltrOf_nat (n : Nat) (h : n < 26) : (ltrOf n).toNat = 65 + n := by unfold ltrOf; rw [UInt8.toNat_ofNat']; omega
theorem ltrOf_cap (n : Nat) (h : n < 26) : isL (ltrOf n) = true ∧ isS (ltrOf n) = false ∧ ltr (ltrOf n) = n + 1 := by
  have e := ltrOf_nat n h
  have hs : isS (ltrOf n) = false := by simp [isS, e]; omega
  refine ⟨by simp [isL, isC, e]; omega, hs, ?_⟩
  unfold ltr
  rw [if_neg (by rw [hs]; decide), e]; omega
theorem letL_is (c : Nat) (h : c < 702) : (letL c).all isL = true ∧ letL c ≠ [] ∧ col (letL c) = c + 1 ∧ (letL c).all (fun x => !(x == 36 || isS x)) = true ∧ (letL c).length ≤ 2 := by
  unfold letL
  by_cases hc : c < 26
  · rw [if_pos hc]
    obtain ⟨h1, h2, h3⟩ := ltrOf_cap c hc
    have h4 := isL_36 _ h1
    refine ⟨by simp [h1], by simp, by simp [col, h3], by simp [h2, h4], by simp⟩
  · rw [if_neg hc]
    obtain ⟨h1, h2, h3⟩ := ltrOf_cap (c / 26 - 1) (by omega)
    obtain ⟨k1, k2, k3⟩ := ltrOf_cap (c % 26) (by omega)
    have h4 := isL_36 _ h1
    have k4 := isL_36 _ k1
    refine ⟨by simp [h1, k1], by simp, ?_, ?_, by simp⟩
    · simp only [col, List.foldl_cons, List.foldl_nil, h3, k3]; omega
    · simp only [List.all_cons, List.all_nil, h2, h4, k2, k4]; rfl
theorem letB_data (c : Nat) (h : c < 702) : (letB c).data.toList = letL c := by
  unfold letB letL
  by_cases hc : c < 26
  · rw [if_pos hc, if_pos hc]
    show [UInt8.ofNat (65 + (c : Int) % 26).toNat] = [UInt8.ofNat (65 + c)]
    rw [show (65 + (c : Int) % 26).toNat = 65 + c by omega]
  · rw [if_neg hc, if_neg hc]
    show [UInt8.ofNat (65 + (c : Int) / 26 - 1).toNat, UInt8.ofNat (65 + (c : Int) % 26).toNat] = [UInt8.ofNat (65 + (c / 26 - 1)), UInt8.ofNat (65 + c % 26)]
    rw [show (65 + (c : Int) / 26 - 1).toNat = 65 + (c / 26 - 1) by omega, show (65 + (c : Int) % 26).toNat = 65 + c % 26 by omega]
theorem pinB_data (p : Bool) : (pinB p).data.toList = pinL p := by cases p <;> rfl
theorem append_data (a b : ByteArray) : (a ++ b).data.toList = a.data.toList ++ b.data.toList := by
  simp [ByteArray.data_append]
theorem refB_data (r c : Nat) (p q : Bool) (h : c < 702) : (refB r c p q).data.toList = pinL q ++ (letL c ++ (pinL p ++ Lib.decDigits (r + 1))) := by
  unfold refB
  rw [append_data, append_data, append_data, pinB_data, pinB_data, letB_data c h, numeral_data, show ((r : Int) + 1) = ((r + 1 : Nat) : Int) from rfl, itoa_pos]
  simp [List.append_assoc]
/-- A written reference, whatever stands behind it but a digit. -/
theorem made_ref (s : ByteArray) (r c : Nat) (p q : Bool) (X : List UInt8) (h : c < 702) (hs : s.data.toList = (refB r c p q).data.toList ++ X) (hx : stops dig X = true) : Made s q (letL c) p (Lib.decDigits (r + 1)) X := by
  obtain ⟨h1, h2, h3, h4, h5⟩ := letL_is c h
  obtain ⟨x, y, hd, hn⟩ := dec_lead (r + 1) (by omega)
  refine ⟨?_, h1, h2, dgs_dec (r + 1), by rw [hd]; simp, by rw [hd]; simpa [lead0] using hn, hx⟩
  rw [hs, refB_data r c p q h]
  simp [List.append_assoc]
theorem read_ref (s : ByteArray) (r c : Nat) (p q : Bool) (X : List UInt8) (hr : r < 65536) (h : c < 702) (hs : s.data.toList = (refB r c p q).data.toList ++ X) (hx : stops dig X = true) :
    rE s = 0 ∧ rR s = r ∧ rC s = c ∧ rP s = p ∧ rQ s = q ∧ rN s = (refB r c p q).size := by
  have m := made_ref s r c p q X h hs hx
  obtain ⟨h1, h2, h3, h4, h5⟩ := letL_is c h
  obtain ⟨e1, e2, e3, e4, e5, e6⟩ := m.on (by omega) (by rw [val_dec]; omega)
  refine ⟨e1, by rw [e2, val_dec]; omega, by rw [e3, h3]; omega, e4, e5, ?_⟩
  rw [e6, Lib.size_eq, refB_data r c p q h]
  simp; omega
end Go.Proofs.YtbpogngnhhkjbaaDoor
