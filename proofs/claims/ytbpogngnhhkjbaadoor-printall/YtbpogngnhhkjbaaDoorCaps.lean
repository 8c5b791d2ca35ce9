/- Plain facts: a text that begins with a reference is of the make that Forms names; capitals keep what it is read as, and on the grid they are what would be written; no Go in sight. -/
import Derived.Test.YtbpogngnhhkjbaaDoorCapitals
namespace Go.Proofs.YtbpogngnhhkjbaaDoor
open Go.RowKit
set_option linter.unusedVariables false

theorem stops_run (p : UInt8 → Bool) (l : List UInt8) : stops p (l.drop (l.takeWhile p).length) = true := by
  induction l with
  | nil => rfl
  | cons c r ih =>
    rw [List.takeWhile_cons]
    split
    · exact ih
    · next h => simpa [stops] using h
theorem runE_stops (p : UInt8 → Bool) (s : ByteArray) (i : Nat) : stops p (s.data.toList.drop (runE p s i)) = true := by
  unfold runE
  rw [← List.drop_drop]
  exact stops_run p _
theorem runE_all (p : UInt8 → Bool) (s : ByteArray) (i k : Nat) (h1 : i ≤ k) (h2 : k < runE p s i) (h : k < s.size) : p s[k] = true := by
  unfold runE at h2
  have hp := List.takeWhile_prefix p (l := s.data.toList.drop i)
  have hk : k - i < ((s.data.toList.drop i).takeWhile p).length := by omega
  have e := hp.getElem hk
  have hm := List.getElem_mem hk
  have ha := all_takeWhile p (s.data.toList.drop i)
  rw [List.all_eq_true] at ha
  have hx := ha _ hm
  rw [e] at hx
  have e2 : (s.data.toList.drop i)[k - i]'(by have := hp.length_le; omega) = s[k] := by
    rw [List.getElem_drop]
    simp only [show i + (k - i) = k by omega]
    rfl
  rwa [e2] at hx
theorem pinE_take (s : ByteArray) (i : Nat) : (s.data.toList.drop i).take (pinE s i - i) = pinL (decide (i < pinE s i)) := by
  by_cases h : i < s.size
  · rw [pinE_at s i h, drop_cons s i h]
    by_cases e : s[i] = 36
    · rw [if_pos e, e]; simp [pinL]
    · rw [if_neg e]; simp [pinL]
  · rw [pinE_end s i (by omega)]; simp [pinL]
theorem drop_split (l : List UInt8) (a b : Nat) (h : a ≤ b) : l.drop a = (l.drop a).take (b - a) ++ l.drop b := by
  have : l.drop b = (l.drop a).drop (b - a) := by rw [List.drop_drop, show a + (b - a) = b by omega]
  rw [this, List.take_append_drop]
theorem split4 (l : List UInt8) (a b c d : Nat) (h1 : a ≤ b) (h2 : b ≤ c) (h3 : c ≤ d) : l = l.take a ++ ((l.drop a).take (b - a) ++ ((l.drop b).take (c - b) ++ ((l.drop c).take (d - c) ++ l.drop d))) := by
  rw [← drop_split l c d h3, ← drop_split l b c h2, ← drop_split l a b h1, List.take_append_drop]
theorem ba_eq {a b : ByteArray} (h : a.data.toList = b.data.toList) : a = b := by
  obtain ⟨⟨x⟩⟩ := a
  obtain ⟨⟨y⟩⟩ := b
  simp at h
  rw [h]
theorem ext_ne (s : ByteArray) (a b : Nat) (h : a < b) (hb : b ≤ s.size) : (s.extract a b).data.toList ≠ [] := by
  intro e
  have := congrArg List.length e
  rw [← Lib.size_eq, ByteArray.size_extract] at this
  simp at this
  omega
theorem made_of (s : ByteArray) (h : synS s = false) :
    Made s (decide (0 < cA s)) (s.extract (cA s) (cB s)).data.toList (decide (cB s < cC s)) (s.extract (cC s) (cD s)).data.toList (s.data.toList.drop (cD s)) := by
  obtain ⟨l1, l2, l3, l4⟩ := cut_le s
  unfold synS at h
  simp only [Bool.or_eq_false_iff] at h
  obtain ⟨⟨h1, h2⟩, h3⟩ := h
  have n1 : cB s ≠ cA s := by simpa using h1
  have n2 : cD s ≠ cC s := by simpa using h2
  have z := Lib.size_eq s
  have hD : (s.extract (cC s) (cD s)).data.toList = (s.data.toList.drop (cC s)).takeWhile dig := run_data dig s (cC s)
  refine ⟨?_, run_all isL s (cA s), ?_, run_all dig s (cC s), ?_, ?_, runE_stops dig s (cC s)⟩
  · have e1 : s.data.toList.take (cA s) = pinL (decide (0 < cA s)) := by
      have := pinE_take s 0
      rw [List.drop_zero, Nat.sub_zero] at this
      exact this
    have e3 : (s.data.toList.drop (cB s)).take (cC s - cB s) = pinL (decide (cB s < cC s)) := pinE_take s (cB s)
    rw [Lib.extract_data, Lib.extract_data, ← e1, ← e3]
    exact split4 _ _ _ _ _ l1 l2 l3
  · exact ext_ne s _ _ (by omega) (by omega)
  · exact ext_ne s _ _ (by omega) (by omega)
  · rw [hD, drop_cons s (cC s) (by omega)]
    rw [drop_cons s (cC s) (by omega)] at h3
    rw [List.takeWhile_cons]
    split
    · exact h3
    · rfl

theorem capOf_not (c : UInt8) (h : isS c = false) : capOf c = c := by
  unfold capOf capI
  rw [if_neg (by rw [h]; decide)]
  apply UInt8.toNat_inj.1
  rw [UInt8.toNat_ofNat']
  have := c.toNat_lt
  simp
theorem capOf_nat (c : UInt8) (h : isS c = true) : (capOf c).toNat = c.toNat - 32 := by
  unfold capOf capI
  rw [if_pos h, UInt8.toNat_ofNat']
  simp [isS] at h
  omega
theorem capOf_L (c : UInt8) (h : isL c = true) : isL (capOf c) = true ∧ ltr (capOf c) = ltr c ∧ capOf c = ltrOf (ltr c - 1) ∧ 1 ≤ ltr c ∧ ltr c ≤ 26 := by
  cases hs : isS c
  · obtain ⟨e1, e2, e3⟩ := ltr_cap c h hs
    rw [capOf_not c hs]
    refine ⟨h, rfl, ?_, by omega, by omega⟩
    apply UInt8.toNat_inj.1
    rw [ltrOf_nat _ (by omega)]; omega
  · obtain ⟨e1, e2, e3⟩ := ltr_small c hs
    have en := capOf_nat c hs
    have hns : isS (capOf c) = false := by simp [isS, en]; omega
    have hl : isL (capOf c) = true := by simp [isL, isC, en]; omega
    refine ⟨hl, ?_, ?_, by omega, by omega⟩
    · obtain ⟨f1, f2, f3⟩ := ltr_cap _ hl hns
      rw [f3, en, e3]; omega
    · apply UInt8.toNat_inj.1
      rw [ltrOf_nat _ (by omega), en]; omega
theorem cap_pin (p : Bool) : (pinL p).map capOf = pinL p := by
  cases p
  · rfl
  · show [capOf 36] = [36]
    rw [capOf_not 36 (by decide)]
theorem cap_dig (D : List UInt8) (h : D.all dig = true) : D.map capOf = D := by
  induction D with
  | nil => rfl
  | cons c r ih =>
    rw [List.all_cons, Bool.and_eq_true] at h
    have hc : isS c = false := by have := h.1; simp [dig] at this; simp [isS]; omega
    rw [List.map_cons, capOf_not c hc, ih h.2]
theorem cap_ls (L : List UInt8) (h : L.all isL = true) : (L.map capOf).all isL = true := by
  rw [List.all_eq_true] at *
  intro x hx
  obtain ⟨y, hy, rfl⟩ := List.mem_map.1 hx
  exact (capOf_L y (h y hy)).1
theorem col_caps (L : List UInt8) (h : L.all isL = true) (a : Nat) : (L.map capOf).foldl (fun a c => a * 26 + ltr c) a = L.foldl (fun a c => a * 26 + ltr c) a := by
  induction L generalizing a with
  | nil => rfl
  | cons c r ih =>
    rw [List.all_cons, Bool.and_eq_true] at h
    rw [List.map_cons, List.foldl_cons, List.foldl_cons, (capOf_L c h.1).2.1, ih h.2]
theorem cap_col (L : List UInt8) (h : L.all isL = true) : col (L.map capOf) = col L := col_caps L h 0
/-- How long the letters of a column are. -/
theorem col_three (a b c : UInt8) (r : List UInt8) (ha : isL a = true) (hb : isL b = true) (hc : isL c = true) : 702 < col (a :: b :: c :: r) := by
  have h1 := (capOf_L a ha).2.2.2.1
  have h2 := (capOf_L b hb).2.2.2.1
  have h3 := (capOf_L c hc).2.2.2.1
  have := col_go r (((0 * 26 + ltr a) * 26 + ltr b) * 26 + ltr c)
  unfold col
  simp only [List.foldl_cons]
  omega
theorem caps_written (L : List UInt8) (h : L.all isL = true) (h0 : L ≠ []) (hc : col L ≤ 702) : L.map capOf = letL (col L - 1) ∧ 1 ≤ col L := by
  match L, h, h0, hc with
  | [c], h, _, hc =>
    simp at h
    obtain ⟨_, _, e, h1, h2⟩ := capOf_L c h
    have ec : col [c] = ltr c := by simp [col]
    rw [ec]
    unfold letL
    rw [if_pos (by omega)]
    exact ⟨by simp [e], h1⟩
  | [c, d], h, _, hc =>
    simp at h
    obtain ⟨_, _, e, h1, h2⟩ := capOf_L c h.1
    obtain ⟨_, _, e', h1', h2'⟩ := capOf_L d h.2
    have ec : col [c, d] = ltr c * 26 + ltr d := by simp [col]
    rw [ec]
    unfold letL
    rw [if_neg (by omega), show (ltr c * 26 + ltr d - 1) / 26 - 1 = ltr c - 1 by omega, show (ltr c * 26 + ltr d - 1) % 26 = ltr d - 1 by omega]
    exact ⟨by simp [e, e'], by omega⟩
  | a :: b :: c :: r, h, _, hc =>
    simp only [List.all_cons, Bool.and_eq_true] at h
    have := col_three a b c r h.1 h.2.1 h.2.2.1
    omega

/-- The reference's own bytes. -/
theorem Made.head {s : ByteArray} {q p : Bool} {L D X : List UInt8} (h : Made s q L p D X) : (s.extract 0 (cD s)).data.toList = pinL q ++ (L ++ (pinL p ++ D)) := by
  rw [Lib.extract_data, h.cuts.2.2.2, h.data, List.drop_zero, Nat.sub_zero]
  rw [show pinL q ++ (L ++ (pinL p ++ (D ++ X))) = (pinL q ++ (L ++ (pinL p ++ D))) ++ X by simp]
  rw [List.take_left' (by simp; omega)]
theorem Made.caps {s : ByteArray} {q p : Bool} {L D X : List UInt8} (h : Made s q L p D X) : (capB (s.extract 0 (cD s))).data.toList = pinL q ++ (L.map capOf ++ (pinL p ++ D)) := by
  rw [capB_data, h.head, List.map_append, List.map_append, List.map_append, cap_pin, cap_pin, cap_dig D h.ds]
theorem Made.again {s : ByteArray} {q p : Bool} {L D X : List UInt8} (h : Made s q L p D X) (more : ByteArray) (hm : stops dig more.data.toList = true) : Made (capB (s.extract 0 (cD s)) ++ more) q (L.map capOf) p D more.data.toList :=
  ⟨by rw [append_data, h.caps]; simp, cap_ls L h.ls, by have := h.l0; simpa using this, h.ds, h.d0, h.lead, hm⟩
theorem Made.capSize {s : ByteArray} {q p : Bool} {L D X : List UInt8} (h : Made s q L p D X) : (capB (s.extract 0 (cD s))).size = cD s := by
  rw [Lib.size_eq, h.caps, h.cuts.2.2.2]; simp; omega
theorem lead_num (D : List UInt8) (h : D.all dig = true) (h0 : D ≠ []) (hl : lead0 D = false) : numL D = true := by
  cases D with
  | nil => exact absurd rfl h0
  | cons c r =>
    have hc : (c == 48) = false := hl
    simp only [numL, bne, hc, Bool.not_false, Bool.true_and]
    exact h
/-- On the grid, what is written is just that. -/
theorem Made.written {s : ByteArray} {q p : Bool} {L D X : List UInt8} (h : Made s q L p D X) (hc : col L ≤ 702) (hr : val D ≤ 65536) :
    1 ≤ col L ∧ 1 ≤ val D ∧ capB (s.extract 0 (cD s)) = refB (val D - 1) (col L - 1) p q := by
  obtain ⟨e1, e2⟩ := caps_written L h.ls h.l0 hc
  obtain ⟨e3, e4⟩ := dec_val D (lead_num D h.ds h.d0 h.lead)
  refine ⟨e2, e4, ?_⟩
  apply ba_eq
  rw [h.caps, e1, refB_data (val D - 1) (col L - 1) p q (by omega), show val D - 1 + 1 = val D by omega, e3]
end Go.Proofs.YtbpogngnhhkjbaaDoor
