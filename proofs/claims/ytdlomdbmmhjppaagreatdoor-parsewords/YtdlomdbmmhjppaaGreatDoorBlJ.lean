/- Plain facts: a text that is made of a pin or none, letters, a pin or none, digits and a rest that opens with no digit is read as just that reference; a written reference is such a text; no Go in sight. What the law's own capitals answers, for every text of some length: each small letter as its capital. Proved of the Go text. Plain facts: a text that begins with a reference is of the make that Forms names; capitals keep what it is read as, and on the grid they are what would be written; no Go in sight. A text up to a fault is words; what is known of each word's bytes; of no program. LexPlaces: what the law answers, for every text: true. Proved of the Go text. Words written with blanks between are the same words; of no program. The words of a text, written with blanks between, are cut into the same words; of no program. -/
import Derived.Test.YtdlomdbmmhjppaaGreatDoorRuJ
import Derived.OwnWalk
import Derived.Laws.BytesArg
import Derived.Test.YtdlomdbmmhjppaaGreatDoorFmJ
import Derived.Test.YtdlomdbmmhjppaaGreatDoorCtJ
namespace Go.Proofs.YtdlomdbmmhjppaaGreatDoor
open Go.RowKit
set_option linter.unusedVariables false

def pinL (p : Bool) : List UInt8 := if p then [36] else []
/-- A text's first byte, if there is one, is not of the sort. -/
def stops (p : UInt8 → Bool) : List UInt8 → Bool
  | [] => true
  | c :: _ => !p c
theorem takeWhile_stop (p : UInt8 → Bool) (L X : List UInt8) (h : L.all p = true) (hx : stops p X = true) : (L ++ X).takeWhile p = L := by
  induction L with
  | nil =>
    cases X with
    | nil => rfl
    | cons c r => rw [List.nil_append, List.takeWhile_cons, if_neg (by simpa [stops] using hx)]
  | cons c r ih =>
    rw [List.all_cons, Bool.and_eq_true] at h
    rw [List.cons_append, List.takeWhile_cons, if_pos h.1, ih h.2]
theorem pinL_len (p : Bool) : (pinL p).length = if p then 1 else 0 := by cases p <;> rfl
theorem pin_count (p : Bool) (X : List UInt8) (hx : stops (· == 36) X = true) : ((pinL p ++ X).take 1).countP (· == 36) = (pinL p).length := by
  cases p
  · cases X with
    | nil => rfl
    | cons c r =>
      have h : (c == 36) = false := by simpa [stops] using hx
      simp [pinL, h]
  · simp [pinL]
theorem isL_36 (c : UInt8) (h : isL c = true) : (c == 36) = false := by
  rw [beq_eq_false_iff_ne]; rintro rfl; revert h; decide
theorem dig_36 (c : UInt8) (h : dig c = true) : (c == 36) = false := by
  rw [beq_eq_false_iff_ne]; rintro rfl; revert h; decide
theorem dig_isL (c : UInt8) (h : dig c = true) : isL c = false := by
  simp [dig] at h
  simp [isL, isC, isS]; omega
theorem stops_L (L X : List UInt8) (h : L.all isL = true) (h0 : L ≠ []) : stops (· == 36) (L ++ X) = true := by
  cases L with
  | nil => exact absurd rfl h0
  | cons c r =>
    rw [List.all_cons, Bool.and_eq_true] at h
    simp [stops, isL_36 c h.1]
theorem stops_D (D X : List UInt8) (h : D.all dig = true) (h0 : D ≠ []) : stops (· == 36) (D ++ X) = true := by
  cases D with
  | nil => exact absurd rfl h0
  | cons c r =>
    rw [List.all_cons, Bool.and_eq_true] at h
    simp [stops, dig_36 c h.1]
theorem stops_pinD (p : Bool) (D X : List UInt8) (h : D.all dig = true) (h0 : D ≠ []) : stops isL (pinL p ++ (D ++ X)) = true := by
  cases p
  · cases D with
    | nil => exact absurd rfl h0
    | cons c r =>
      rw [List.all_cons, Bool.and_eq_true] at h
      simp [pinL, stops, dig_isL c h.1]
  · simp [pinL, stops, isL, isC, isS]

/-- What a text of that make is read as. -/
structure Made (s : ByteArray) (q : Bool) (L : List UInt8) (p : Bool) (D X : List UInt8) : Prop where
  data : s.data.toList = pinL q ++ (L ++ (pinL p ++ (D ++ X)))
  ls : L.all isL = true
  l0 : L ≠ []
  ds : D.all dig = true
  d0 : D ≠ []
  lead : lead0 D = false
  rest : stops dig X = true
theorem Made.cuts {s : ByteArray} {q p : Bool} {L D X : List UInt8} (h : Made s q L p D X) :
    cA s = (pinL q).length ∧ cB s = (pinL q).length + L.length ∧ cC s = (pinL q).length + L.length + (pinL p).length ∧ cD s = (pinL q).length + L.length + (pinL p).length + D.length := by
  have e1 : cA s = (pinL q).length := by
    unfold cA pinE
    rw [h.data, List.drop_zero, pin_count q _ (stops_L L _ h.ls h.l0)]; omega
  have d1 : s.data.toList.drop (pinL q).length = L ++ (pinL p ++ (D ++ X)) := by rw [h.data, List.drop_left]
  have e2 : cB s = (pinL q).length + L.length := by
    unfold cB runE
    rw [e1, d1, takeWhile_stop isL L _ h.ls (stops_pinD p D X h.ds h.d0)]
  have d2 : s.data.toList.drop ((pinL q).length + L.length) = pinL p ++ (D ++ X) := by rw [← List.drop_drop, d1, List.drop_left]
  have e3 : cC s = (pinL q).length + L.length + (pinL p).length := by
    unfold cC pinE
    rw [e2, d2, pin_count p _ (stops_D D X h.ds h.d0)]
  have d3 : s.data.toList.drop ((pinL q).length + L.length + (pinL p).length) = D ++ X := by rw [← List.drop_drop, d2, List.drop_left]
  have e4 : cD s = (pinL q).length + L.length + (pinL p).length + D.length := by
    unfold cD runE
    rw [e3, d3, takeWhile_stop dig D X h.ds h.rest]
  exact ⟨e1, e2, e3, e4⟩
theorem Made.drops {s : ByteArray} {q p : Bool} {L D X : List UInt8} (h : Made s q L p D X) :
    s.data.toList.drop (cA s) = L ++ (pinL p ++ (D ++ X)) ∧ s.data.toList.drop (cC s) = D ++ X := by
  obtain ⟨e1, e2, e3, e4⟩ := h.cuts
  have d1 : s.data.toList.drop (pinL q).length = L ++ (pinL p ++ (D ++ X)) := by rw [h.data, List.drop_left]
  have d2 : s.data.toList.drop ((pinL q).length + L.length) = pinL p ++ (D ++ X) := by rw [← List.drop_drop, d1, List.drop_left]
  have d3 : s.data.toList.drop ((pinL q).length + L.length + (pinL p).length) = D ++ X := by rw [← List.drop_drop, d2, List.drop_left]
  rw [e1, e3]
  exact ⟨d1, d3⟩
theorem Made.is {s : ByteArray} {q p : Bool} {L D X : List UInt8} (h : Made s q L p D X) :
    synS s = false ∧ colS s = col L ∧ rowS s = val D ∧ decide (cB s < cC s) = p ∧ decide (0 < cA s) = q := by
  obtain ⟨e1, e2, e3, e4⟩ := h.cuts
  obtain ⟨d1, d3⟩ := h.drops
  have hl := List.length_pos_iff.2 h.l0
  have hd := List.length_pos_iff.2 h.d0
  refine ⟨?_, ?_, ?_, ?_, ?_⟩
  · unfold synS
    rw [d3]
    have hz : lead0 (D ++ X) = false := by
      have hl0 := h.lead
      have hd0 := h.d0
      cases D with
      | nil => exact absurd rfl hd0
      | cons c r => exact hl0
    rw [hz]
    simp; omega
  · unfold colS
    rw [Lib.extract_data, d1, show cB s - cA s = L.length by omega, List.take_left]
  · unfold rowS
    rw [Lib.extract_data, d3, show cD s - cC s = D.length by omega, List.take_left]
  · rw [e2, e3, pinL_len p]; cases p <;> simp
  · rw [e1, pinL_len q]; cases q <;> simp
/-- On the grid. -/
theorem Made.on {s : ByteArray} {q p : Bool} {L D X : List UInt8} (h : Made s q L p D X) (hc : col L ≤ 702) (hr : val D ≤ 65536) :
    rE s = 0 ∧ rR s = (val D : Int) - 1 ∧ rC s = (col L : Int) - 1 ∧ rP s = p ∧ rQ s = q ∧ rN s = (pinL q).length + L.length + (pinL p).length + D.length := by
  obtain ⟨h1, h2, h3, h4, h5⟩ := h.is
  have ho : offS s = false := by unfold offS; rw [h2, h3]; simp; omega
  unfold rE rR rC rP rQ rN
  rw [h1, ho, h2, h3, h4, h5, h.cuts.2.2.2]
  simp
/-- Off the grid. -/
theorem Made.off {s : ByteArray} {q p : Bool} {L D X : List UInt8} (h : Made s q L p D X) (ho : 702 < col L ∨ 65536 < val D) :
    rE s = 10 ∧ rR s = 0 ∧ rC s = 0 ∧ rP s = false ∧ rQ s = false ∧ rN s = (pinL q).length + L.length + (pinL p).length + D.length := by
  obtain ⟨h1, h2, h3, h4, h5⟩ := h.is
  have ho : offS s = true := by unfold offS; rw [h2, h3]; simpa using ho
  unfold rE rR rC rP rQ rN
  rw [h1, ho, h.cuts.2.2.2]
  simp

def ltrOf (n : Nat) : UInt8 := UInt8.ofNat (65 + n)
def letL (c : Nat) : List UInt8 := if c < 26 then [ltrOf c] else [ltrOf (c / 26 - 1), ltrOf (c % 26)]
theorem ltrOf_nat (n : Nat) (h : n < 26) : (ltrOf n).toNat = 65 + n := by unfold ltrOf; rw [UInt8.toNat_ofNat']; omega
theorem ltrOf_cap (n : Nat) (h : n < 26) : isL (ltrOf n) = true ∧ isS (ltrOf n) = false ∧ ltr (ltrOf n) = n + 1 := by
  have e := ltrOf_nat n h
  have hs : isS (ltrOf n) = false := by simp [isS, e]; omega
  refine ⟨by simp [isL, isC, e]; omega, hs, ?_⟩
  unfold ltr
  rw [if_neg (by rw [hs]; decide), e]; omega
theorem letL_is (c : Nat) (h : c < 702) : (letL c).all isL = true ∧ letL c ≠ [] ∧ col (letL c) = c + 1 ∧ (letL c).all (fun x => !(x == 36 || isS x)) = true ∧ (letL c).length ≤ 2 := by
  unfold letL
  by_cases hc : c < 26
  · rw [if_pos hc]
    obtain ⟨h1, h2, h3⟩ := ltrOf_cap c hc
    have h4 := isL_36 _ h1
    refine ⟨by simp [h1], by simp, by simp [col, h3], by simp [h2, h4], by simp⟩
  · rw [if_neg hc]
    obtain ⟨h1, h2, h3⟩ := ltrOf_cap (c / 26 - 1) (by omega)
    obtain ⟨k1, k2, k3⟩ := ltrOf_cap (c % 26) (by omega)
    have h4 := isL_36 _ h1
    have k4 := isL_36 _ k1
    refine ⟨by simp [h1, k1], by simp, ?_, ?_, by simp⟩
    · simp only [col, List.foldl_cons, List.foldl_nil, h3, k3]; omega
    · simp only [List.all_cons, List.all_nil, h2, h4, k2, k4]; rfl
theorem letB_data (c : Nat) (h : c < 702) : (letB c).data.toList = letL c := by
  unfold letB letL
  by_cases hc : c < 26
  · rw [if_pos hc, if_pos hc]
    show [UInt8.ofNat (65 + (c : Int) % 26).toNat] = [UInt8.ofNat (65 + c)]
    rw [show (65 + (c : Int) % 26).toNat = 65 + c by omega]
  · rw [if_neg hc, if_neg hc]
    show [UInt8.ofNat (65 + (c : Int) / 26 - 1).toNat, UInt8.ofNat (65 + (c : Int) % 26).toNat] = [UInt8.ofNat (65 + (c / 26 - 1)), UInt8.ofNat (65 + c % 26)]
    rw [show (65 + (c : Int) / 26 - 1).toNat = 65 + (c / 26 - 1) by omega, show (65 + (c : Int) % 26).toNat = 65 + c % 26 by omega]
theorem pinB_data (p : Bool) : (pinB p).data.toList = pinL p := by cases p <;> rfl
theorem append_data (a b : ByteArray) : (a ++ b).data.toList = a.data.toList ++ b.data.toList := by
  simp [ByteArray.data_append]
theorem refB_data (r c : Nat) (p q : Bool) (h : c < 702) : (refB r c p q).data.toList = pinL q ++ (letL c ++ (pinL p ++ Lib.decDigits (r + 1))) := by
  unfold refB
  rw [append_data, append_data, append_data, pinB_data, pinB_data, letB_data c h, numeral_data, show ((r : Int) + 1) = ((r + 1 : Nat) : Int) from rfl, itoa_pos]
  simp [List.append_assoc]
/-- A written reference, whatever stands behind it but a digit. -/
theorem made_ref (s : ByteArray) (r c : Nat) (p q : Bool) (X : List UInt8) (h : c < 702) (hs : s.data.toList = (refB r c p q).data.toList ++ X) (hx : stops dig X = true) : Made s q (letL c) p (Lib.decDigits (r + 1)) X := by
  obtain ⟨h1, h2, h3, h4, h5⟩ := letL_is c h
  obtain ⟨x, y, hd, hn⟩ := dec_lead (r + 1) (by omega)
  refine ⟨?_, h1, h2, dgs_dec (r + 1), by rw [hd]; simp, by rw [hd]; simpa [lead0] using hn, hx⟩
  rw [hs, refB_data r c p q h]
  simp [List.append_assoc]
theorem read_ref (s : ByteArray) (r c : Nat) (p q : Bool) (X : List UInt8) (hr : r < 65536) (h : c < 702) (hs : s.data.toList = (refB r c p q).data.toList ++ X) (hx : stops dig X = true) :
    rE s = 0 ∧ rR s = r ∧ rC s = c ∧ rP s = p ∧ rQ s = q ∧ rN s = (refB r c p q).size := by
  have m := made_ref s r c p q X h hs hx
  obtain ⟨h1, h2, h3, h4, h5⟩ := letL_is c h
  obtain ⟨e1, e2, e3, e4, e5, e6⟩ := m.on (by omega) (by rw [val_dec]; omega)
  refine ⟨e1, by rw [e2, val_dec]; omega, by rw [e3, h3]; omega, e4, e5, ?_⟩
  rw [e6, Lib.size_eq, refB_data r c p q h]
  simp; omega
end Go.Proofs.YtdlomdbmmhjppaaGreatDoor
namespace Go.Proofs.YtdlomdbmmhjppaaGreatDoor
open Go.RowKit
set_option linter.unusedVariables false

def capI (c : UInt8) : Int := if isS c then (c.toNat : Int) - 97 + 65 else c.toNat
def capOf (c : UInt8) : UInt8 := UInt8.ofNat (capI c).toNat
def capB (s : ByteArray) : ByteArray := ⟨(s.data.toList.map capOf).toArray⟩
theorem capB_data (s : ByteArray) : (capB s).data.toList = s.data.toList.map capOf := by simp [capB]
theorem info_u8 : (Tryz.prog.info? 5).map (fun i => (i.zero, i.size, i.bytes)) = some (some (.int .u8 0), 1, 1) := by kernel_rfl
def capVs (s : ByteArray) (k : Nat) : List Value := (s.data.toList.take k).map fun c => Value.int .u8 (capI c)
theorem capVs_snoc (s : ByteArray) (k : Nat) (h : k < s.size) : capVs s (k + 1) = capVs s k ++ [.int .u8 (capI s[k])] := by
  unfold capVs; rw [take_snoc s k h]; simp
theorem rel_cap {B k : Nat} {s : ByteArray} {w wr w1 : World} {v v' : Value} {o : Obj} {x : Int} (hk : k < s.size) (hx : x = capI s[k]) (hB : B ≤ wr.heap.size) (hnx : Below B w wr)
    (hown' : w1.ownsRow B 5 1 v' (k + 1) (capVs s k ++ [.int .u8 x])) (hown : wr.ownsRow B 5 1 v k (capVs s k)) (hgrow : (wr.alloc o).grownBy w1 v.ownBlock) :
    w1.ownsRow B 5 1 v' (k + 1) (capVs s (k + 1)) ∧ Below B w w1 := by
  refine ⟨by rw [capVs_snoc s k hk, ← hx]; exact hown', (hnx.alloc hB o).grown hgrow (by simp; omega) fun j hj => ?_⟩
  exact (hown.lt j hj).1
theorem capVs_nums (s : ByteArray) : capVs s s.size = (s.data.toList.map capI).map (Value.int .u8) := by
  unfold capVs; rw [take_all s s.size (Nat.le_refl _)]; simp
theorem capB_nums (s : ByteArray) : capB s = strOfNums (s.data.toList.map capI) := by
  unfold capB strOfNums; rw [List.map_map]; rfl
theorem conv_own {w : World} {B n : Nat} {v : Value} {zs : List Int} (h : w.ownsRow B 5 1 v n (zs.map (Value.int .u8))) : (convert 38 9 v).run Tryz.prog w = .ok (.string (strOfNums zs)) w := by
  obtain ⟨hl, h⟩ := h
  rcases h with ⟨rfl, rfl⟩ | ⟨g, cap, cur, rfl, _, hg, _, _, _, ht⟩
  · have : zs = [] := by
      have := hl; simp at this; exact this
    subst this
    exact run_convert_bytes_nil w 38 5 Tryz.underlying38 Tryz.underlying5 0 0 9 Tryz.underlying9
  · refine run_convert_bytes_arg w 38 5 Tryz.underlying38 Tryz.underlying5 g 0 n cap zs (by simpa using hl) (fun i hi => ?_) 9 Tryz.underlying9
    have hlz : zs.length = n := by simpa using hl
    have e : cur.toList[i]? = some (.int .u8 (zs.getD i 0)) := by
      have h1 : (cur.toList.take (n * 1))[i]? = cur.toList[i]? := by rw [List.getElem?_take]; rw [if_pos (by omega)]
      rw [← h1, ht]
      simp [List.getElem?_map, List.getD, List.getElem?_eq_getElem (show i < zs.length by omega)]
    unfold World.cell?
    simp [hg]
    simpa using e
end Go.Proofs.YtdlomdbmmhjppaaGreatDoor
namespace Go.Proofs.YtdlomdbmmhjppaaGreatDoor
open Go.RowKit
set_option linter.unusedVariables false

theorem stops_run (p : UInt8 → Bool) (l : List UInt8) : stops p (l.drop (l.takeWhile p).length) = true := by
  induction l with
  | nil => rfl
  | cons c r ih =>
    rw [List.takeWhile_cons]
    split
    · exact ih
    · next h => simpa [stops] using h
theorem runE_stops (p : UInt8 → Bool) (s : ByteArray) (i : Nat) : stops p (s.data.toList.drop (runE p s i)) = true := by
  unfold runE
  rw [← List.drop_drop]
  exact stops_run p _
theorem runE_all (p : UInt8 → Bool) (s : ByteArray) (i k : Nat) (h1 : i ≤ k) (h2 : k < runE p s i) (h : k < s.size) : p s[k] = true := by
  unfold runE at h2
  have hp := List.takeWhile_prefix p (l := s.data.toList.drop i)
  have hk : k - i < ((s.data.toList.drop i).takeWhile p).length := by omega
  have e := hp.getElem hk
  have hm := List.getElem_mem hk
  have ha := all_takeWhile p (s.data.toList.drop i)
  rw [List.all_eq_true] at ha
  have hx := ha _ hm
  rw [e] at hx
  have e2 : (s.data.toList.drop i)[k - i]'(by have := hp.length_le; omega) = s[k] := by
    rw [List.getElem_drop]
    simp only [show i + (k - i) = k by omega]
    rfl
  rwa [e2] at hx
theorem pinE_take (s : ByteArray) (i : Nat) : (s.data.toList.drop i).take (pinE s i - i) = pinL (decide (i < pinE s i)) := by
  by_cases h : i < s.size
  · rw [pinE_at s i h, drop_cons s i h]
    by_cases e : s[i] = 36
    · rw [if_pos e, e]; simp [pinL]
    · rw [if_neg e]; simp [pinL]
  · rw [pinE_end s i (by omega)]; simp [pinL]
theorem drop_split (l : List UInt8) (a b : Nat) (h : a ≤ b) : l.drop a = (l.drop a).take (b - a) ++ l.drop b := by
  have : l.drop b = (l.drop a).drop (b - a) := by rw [List.drop_drop, show a + (b - a) = b by omega]
  rw [this, List.take_append_drop]
theorem split4 (l : List UInt8) (a b c d : Nat) (h1 : a ≤ b) (h2 : b ≤ c) (h3 : c ≤ d) : l = l.take a ++ ((l.drop a).take (b - a) ++ ((l.drop b).take (c - b) ++ ((l.drop c).take (d - c) ++ l.drop d))) := by
  rw [← drop_split l c d h3, ← drop_split l b c h2, ← drop_split l a b h1, List.take_append_drop]
theorem ba_eq {a b : ByteArray} (h : a.data.toList = b.data.toList) : a = b := by
  obtain ⟨⟨x⟩⟩ := a
  obtain ⟨⟨y⟩⟩ := b
  simp at h
  rw [h]
theorem ext_ne (s : ByteArray) (a b : Nat) (h : a < b) (hb : b ≤ s.size) : (s.extract a b).data.toList ≠ [] := by
  intro e
  have := congrArg List.length e
  rw [← Lib.size_eq, ByteArray.size_extract] at this
  simp at this
  omega
theorem made_of (s : ByteArray) (h : synS s = false) :
    Made s (decide (0 < cA s)) (s.extract (cA s) (cB s)).data.toList (decide (cB s < cC s)) (s.extract (cC s) (cD s)).data.toList (s.data.toList.drop (cD s)) := by
  obtain ⟨l1, l2, l3, l4⟩ := cut_le s
  unfold synS at h
  simp only [Bool.or_eq_false_iff] at h
  obtain ⟨⟨h1, h2⟩, h3⟩ := h
  have n1 : cB s ≠ cA s := by simpa using h1
  have n2 : cD s ≠ cC s := by simpa using h2
  have z := Lib.size_eq s
  have hD : (s.extract (cC s) (cD s)).data.toList = (s.data.toList.drop (cC s)).takeWhile dig := run_data dig s (cC s)
  refine ⟨?_, run_all isL s (cA s), ?_, run_all dig s (cC s), ?_, ?_, runE_stops dig s (cC s)⟩
  · have e1 : s.data.toList.take (cA s) = pinL (decide (0 < cA s)) := by
      have := pinE_take s 0
      rw [List.drop_zero, Nat.sub_zero] at this
      exact this
    have e3 : (s.data.toList.drop (cB s)).take (cC s - cB s) = pinL (decide (cB s < cC s)) := pinE_take s (cB s)
    rw [Lib.extract_data, Lib.extract_data, ← e1, ← e3]
    exact split4 _ _ _ _ _ l1 l2 l3
  · exact ext_ne s _ _ (by omega) (by omega)
  · exact ext_ne s _ _ (by omega) (by omega)
  · rw [hD, drop_cons s (cC s) (by omega)]
    rw [drop_cons s (cC s) (by omega)] at h3
    rw [List.takeWhile_cons]
    split
    · exact h3
    · rfl

theorem capOf_not (c : UInt8) (h : isS c = false) : capOf c = c := by
  unfold capOf capI
  rw [if_neg (by rw [h]; decide)]
  apply UInt8.toNat_inj.1
  rw [UInt8.toNat_ofNat']
  have := c.toNat_lt
  simp
theorem capOf_nat (c : UInt8) (h : isS c = true) : (capOf c).toNat = c.toNat - 32 := by
  unfold capOf capI
  rw [if_pos h, UInt8.toNat_ofNat']
  simp [isS] at h
  omega
theorem capOf_L (c : UInt8) (h : isL c = true) : isL (capOf c) = true ∧ ltr (capOf c) = ltr c ∧ capOf c = ltrOf (ltr c - 1) ∧ 1 ≤ ltr c ∧ ltr c ≤ 26 := by
  cases hs : isS c
  · obtain ⟨e1, e2, e3⟩ := ltr_cap c h hs
    rw [capOf_not c hs]
    refine ⟨h, rfl, ?_, by omega, by omega⟩
    apply UInt8.toNat_inj.1
    rw [ltrOf_nat _ (by omega)]; omega
  · obtain ⟨e1, e2, e3⟩ := ltr_small c hs
    have en := capOf_nat c hs
    have hns : isS (capOf c) = false := by simp [isS, en]; omega
    have hl : isL (capOf c) = true := by simp [isL, isC, en]; omega
    refine ⟨hl, ?_, ?_, by omega, by omega⟩
    · obtain ⟨f1, f2, f3⟩ := ltr_cap _ hl hns
      rw [f3, en, e3]; omega
    · apply UInt8.toNat_inj.1
      rw [ltrOf_nat _ (by omega), en]; omega
theorem cap_pin (p : Bool) : (pinL p).map capOf = pinL p := by
  cases p
  · rfl
  · show [capOf 36] = [36]
    rw [capOf_not 36 (by decide)]
theorem cap_dig (D : List UInt8) (h : D.all dig = true) : D.map capOf = D := by
  induction D with
  | nil => rfl
  | cons c r ih =>
    rw [List.all_cons, Bool.and_eq_true] at h
    have hc : isS c = false := by have := h.1; simp [dig] at this; simp [isS]; omega
    rw [List.map_cons, capOf_not c hc, ih h.2]
theorem cap_ls (L : List UInt8) (h : L.all isL = true) : (L.map capOf).all isL = true := by
  rw [List.all_eq_true] at *
  intro x hx
  obtain ⟨y, hy, rfl⟩ := List.mem_map.1 hx
  exact (capOf_L y (h y hy)).1
theorem col_caps (L : List UInt8) (h : L.all isL = true) (a : Nat) : (L.map capOf).foldl (fun a c => a * 26 + ltr c) a = L.foldl (fun a c => a * 26 + ltr c) a := by
  induction L generalizing a with
  | nil => rfl
  | cons c r ih =>
    rw [List.all_cons, Bool.and_eq_true] at h
    rw [List.map_cons, List.foldl_cons, List.foldl_cons, (capOf_L c h.1).2.1, ih h.2]
theorem cap_col (L : List UInt8) (h : L.all isL = true) : col (L.map capOf) = col L := col_caps L h 0
/-- How long the letters of a column are. -/
theorem col_three (a b c : UInt8) (r : List UInt8) (ha : isL a = true) (hb : isL b = true) (hc : isL c = true) : 702 < col (a :: b :: c :: r) := by
  have h1 := (capOf_L a ha).2.2.2.1
  have h2 := (capOf_L b hb).2.2.2.1
  have h3 := (capOf_L c hc).2.2.2.1
  have := col_go r (((0 * 26 + ltr a) * 26 + ltr b) * 26 + ltr c)
  unfold col
  simp only [List.foldl_cons]
  omega
theorem caps_written (L : List UInt8) (h : L.all isL = true) (h0 : L ≠ []) (hc : col L ≤ 702) : L.map capOf = letL (col L - 1) ∧ 1 ≤ col L := by
  match L, h, h0, hc with
  | [c], h, _, hc =>
    simp at h
    obtain ⟨_, _, e, h1, h2⟩ := capOf_L c h
    have ec : col [c] = ltr c := by simp [col]
    rw [ec]
    unfold letL
    rw [if_pos (by omega)]
    exact ⟨by simp [e], h1⟩
  | [c, d], h, _, hc =>
    simp at h
    obtain ⟨_, _, e, h1, h2⟩ := capOf_L c h.1
    obtain ⟨_, _, e', h1', h2'⟩ := capOf_L d h.2
    have ec : col [c, d] = ltr c * 26 + ltr d := by simp [col]
    rw [ec]
    unfold letL
    rw [if_neg (by omega), show (ltr c * 26 + ltr d - 1) / 26 - 1 = ltr c - 1 by omega, show (ltr c * 26 + ltr d - 1) % 26 = ltr d - 1 by omega]
    exact ⟨by simp [e, e'], by omega⟩
  | a :: b :: c :: r, h, _, hc =>
    simp only [List.all_cons, Bool.and_eq_true] at h
    have := col_three a b c r h.1 h.2.1 h.2.2.1
    omega

/-- The reference's own bytes. -/
theorem Made.head {s : ByteArray} {q p : Bool} {L D X : List UInt8} (h : Made s q L p D X) : (s.extract 0 (cD s)).data.toList = pinL q ++ (L ++ (pinL p ++ D)) := by
  rw [Lib.extract_data, h.cuts.2.2.2, h.data, List.drop_zero, Nat.sub_zero]
  rw [show pinL q ++ (L ++ (pinL p ++ (D ++ X))) = (pinL q ++ (L ++ (pinL p ++ D))) ++ X by simp]
  rw [List.take_left' (by simp; omega)]
theorem Made.caps {s : ByteArray} {q p : Bool} {L D X : List UInt8} (h : Made s q L p D X) : (capB (s.extract 0 (cD s))).data.toList = pinL q ++ (L.map capOf ++ (pinL p ++ D)) := by
  rw [capB_data, h.head, List.map_append, List.map_append, List.map_append, cap_pin, cap_pin, cap_dig D h.ds]
theorem Made.again {s : ByteArray} {q p : Bool} {L D X : List UInt8} (h : Made s q L p D X) (more : ByteArray) (hm : stops dig more.data.toList = true) : Made (capB (s.extract 0 (cD s)) ++ more) q (L.map capOf) p D more.data.toList :=
  ⟨by rw [append_data, h.caps]; simp, cap_ls L h.ls, by have := h.l0; simpa using this, h.ds, h.d0, h.lead, hm⟩
theorem Made.capSize {s : ByteArray} {q p : Bool} {L D X : List UInt8} (h : Made s q L p D X) : (capB (s.extract 0 (cD s))).size = cD s := by
  rw [Lib.size_eq, h.caps, h.cuts.2.2.2]; simp; omega
theorem lead_num (D : List UInt8) (h : D.all dig = true) (h0 : D ≠ []) (hl : lead0 D = false) : numL D = true := by
  cases D with
  | nil => exact absurd rfl h0
  | cons c r =>
    have hc : (c == 48) = false := hl
    simp only [numL, bne, hc, Bool.not_false, Bool.true_and]
    exact h
/-- On the grid, what is written is just that. -/
theorem Made.written {s : ByteArray} {q p : Bool} {L D X : List UInt8} (h : Made s q L p D X) (hc : col L ≤ 702) (hr : val D ≤ 65536) :
    1 ≤ col L ∧ 1 ≤ val D ∧ capB (s.extract 0 (cD s)) = refB (val D - 1) (col L - 1) p q := by
  obtain ⟨e1, e2⟩ := caps_written L h.ls h.l0 hc
  obtain ⟨e3, e4⟩ := dec_val D (lead_num D h.ds h.d0 h.lead)
  refine ⟨e2, e4, ?_⟩
  apply ba_eq
  rw [h.caps, e1, refB_data (val D - 1) (col L - 1) p q (by omega), show val D - 1 + 1 = val D by omega, e3]
end Go.Proofs.YtdlomdbmmhjppaaGreatDoor
namespace Go.Proofs.YtdlomdbmmhjppaaGreatDoor
open Go.RowKit
set_option linter.unusedVariables false

theorem tw_take (p : UInt8 → Bool) : ∀ (l : List UInt8) (m : Nat), (l.take m).takeWhile p = (l.takeWhile p).take m
  | [], m => by simp
  | c :: l, 0 => by simp
  | c :: l, m + 1 => by
    rw [List.take_succ_cons, List.takeWhile_cons, List.takeWhile_cons]
    cases p c
    · rfl
    · simp only [if_true]; rw [List.take_succ_cons, tw_take p l m]
theorem txt_take : ∀ (l b : List UInt8) (n m : Nat), txt l = some (b, n) → n ≤ m → txt (l.take m) = some (b, n)
  | [], b, n, m, h, hm => by simp [txt] at h
  | [c], b, n, m, h, hm => by
    have h1 := txt_len [c] b n h
    rw [List.take_of_length_le (by simp at h1 ⊢; omega)]; exact h
  | c :: d :: r, b, n, m, h, hm => by
    have h1 := txt_len (c :: d :: r) b n h
    rw [txt] at h
    split at h
    · next hc =>
      split at h
      · next hd =>
        rw [Option.map_eq_some_iff] at h
        obtain ⟨⟨b', n'⟩, h2, h3⟩ := h
        cases h3
        obtain ⟨m, rfl⟩ : ∃ j, m = j + 2 := ⟨m - 2, by omega⟩
        have ih := txt_take r b' n' m h2 (by omega)
        rw [List.take_succ_cons, List.take_succ_cons, txt, if_pos hc, if_pos hd, ih]; rfl
      · next hd =>
        cases h
        obtain ⟨m, rfl⟩ : ∃ j, m = j + 1 := ⟨m - 1, by omega⟩
        rw [List.take_succ_cons]
        cases m with
        | zero => simp [txt, hc]
        | succ m => rw [List.take_succ_cons, txt, if_pos hc, if_neg hd]
    · next hc =>
      rw [Option.map_eq_some_iff] at h
      obtain ⟨⟨b', n'⟩, h2, h3⟩ := h
      have h4 := txt_len (d :: r) b' n' h2
      cases h3
      obtain ⟨m, rfl⟩ : ∃ j, m = j + 1 := ⟨m - 1, by omega⟩
      have ih := txt_take (d :: r) b' n' m h2 (by omega)
      obtain ⟨m, rfl⟩ : ∃ j, m = j + 1 := ⟨m - 1, by omega⟩
      rw [List.take_succ_cons] at ih
      rw [List.take_succ_cons, List.take_succ_cons, txt, if_neg hc, ih]; rfl
theorem pre_take_iff {l p : List UInt8} {m : Nat} (hm : m ≤ l.length) : Lib.hasPrefix (l.take m) p = true ↔ Lib.hasPrefix l p = true ∧ p.length ≤ m := by
  unfold Lib.hasPrefix
  rw [List.isPrefixOf_iff_prefix, List.isPrefixOf_iff_prefix]
  constructor
  · intro h
    refine ⟨h.trans (List.take_prefix m l), ?_⟩
    have := h.length_le
    rw [List.length_take] at this; omega
  · rintro ⟨h1, h2⟩
    exact List.prefix_of_prefix_length_le h1 (List.take_prefix m l) (by rw [List.length_take]; omega)
theorem find_take {l p : List UInt8} {m : Nat} (hm : m ≤ l.length) (hp : p.length ≤ m) : ∀ (Q : List (List UInt8)), Q.find? (Lib.hasPrefix l ·) = some p → Q.find? (Lib.hasPrefix (l.take m) ·) = some p
  | [], h => by cases h
  | q :: Q, h => by
    rw [List.find?_cons] at h ⊢
    cases hq : Lib.hasPrefix l q
    · rw [hq] at h
      have h2 : Lib.hasPrefix (l.take m) q = false := by
        rw [Bool.eq_false_iff]; intro e
        rw [(pre_take_iff hm).1 e |>.1] at hq; cases hq
      rw [h2]
      exact find_take hm hp Q h
    · rw [hq] at h
      have : q = p := by simpa using h
      subst this
      rw [(pre_take_iff hm).2 ⟨hq, hp⟩]
theorem calls_take (l : List UInt8) (j : Nat) (hj : 1 ≤ j) : callsL (l.take j) = callsL l := by
  obtain ⟨j, rfl⟩ : ∃ q, j = q + 1 := ⟨j - 1, by omega⟩
  cases l with
  | nil => rfl
  | cons c r => rw [List.take_succ_cons]; unfold callsL Lib.hasPrefix; simp [List.isPrefixOf]
theorem tok_take {R : List UInt8 → Bool} {l : List UInt8} {k n m : Nat} {t : List UInt8} (h : tok R l = .ok k t n) (hm : n ≤ m) (hml : m ≤ l.length) (hc : m = n → callsL (l.drop n) = false) : tok R (l.take m) = .ok k t n := by
  have hl := tok_len h
  cases l with
  | nil => cases h
  | cons c r =>
    obtain ⟨m, rfl⟩ : ∃ q, m = q + 1 := ⟨m - 1, by omega⟩
    rw [List.take_succ_cons]
    unfold tok at h ⊢
    simp only at h ⊢
    split at h
    · next hr =>
      have hn := runTok_len h
      rw [if_pos hr]
      have hro : runOf (c :: r.take m) = runOf (c :: r) := by
        unfold runOf
        rw [← List.take_succ_cons, tw_take, List.take_of_length_le (by unfold runOf at hn; omega)]
      rw [hro, ← hn, ← List.take_succ_cons, List.drop_take]
      rw [← hn] at h
      by_cases e : m + 1 = n
      · rw [e, Nat.sub_self, List.take_zero]
        rw [hc e] at h
        exact h
      · rw [calls_take _ _ (by omega)]; exact h
    · next hr =>
      rw [if_neg hr]
      split at h
      · next hq =>
        rw [if_pos hq]
        unfold txtTok at h ⊢
        split at h
        · cases h
        · next b j hj => cases h; rw [txt_take r _ _ m hj (by omega)]
      · next hq =>
        rw [if_neg hq]
        unfold spTok at h ⊢
        split at h
        · cases h
        · next p hp =>
          cases h
          have h5 := find_take hml hm spelts hp
          rw [List.take_succ_cons] at h5
          rw [show spFind (c :: r.take m) = _ from h5]
theorem tail_take8 (r : List UInt8) (j : Nat) : (r.take j).tail = r.tail.take (j - 1) := by
  cases r <;> cases j <;> simp
theorem bl_take {l : List UInt8} {m : Nat} (h : bl l ≤ m) (h0 : 0 < bl l) : bl (l.take m) = bl l := by
  cases l with
  | nil => simp [bl] at h0
  | cons c r =>
    obtain ⟨m, rfl⟩ : ∃ q, m = q + 1 := ⟨m - 1, by omega⟩
    rw [List.take_succ_cons]
    rw [bl] at h h0 ⊢
    rw [bl]
    split at h
    · next hc => rw [if_pos hc, if_pos hc]
    · next hc =>
      rw [if_neg hc, if_neg hc]
      split at h
      · next h2 =>
        have : (r.take m).head? = some 160 := by
          obtain ⟨m, rfl⟩ : ∃ q, m = q + 1 := ⟨m - 1, by omega⟩
          rw [List.head?_take, if_neg (by omega)]; exact h2.2
        rw [if_pos ⟨h2.1, this⟩, if_pos h2]
      · next h2 =>
        split at h
        · next h3 =>
          obtain ⟨m, rfl⟩ : ∃ q, m = q + 2 := ⟨m - 2, by omega⟩
          have e1 : (r.take (m + 2)).head? = some 128 := by rw [List.head?_take, if_neg (by omega)]; exact h3.2.1
          have e2 : (r.take (m + 2)).tail.head? = some 128 := by
            cases r with
            | nil => have := h3.2.1; simp at this
            | cons d r => rw [List.take_succ_cons, List.tail_cons, List.head?_take, if_neg (by omega)]; exact h3.2.2
          rw [if_neg (by rintro ⟨_, e⟩; rw [e1] at e; simp at e), if_pos ⟨h3.1, e1, e2⟩, if_neg h2, if_pos h3]
        · next h3 => rw [if_neg hc, if_neg h2, if_neg h3] at h0; omega
theorem cut_pre (R : List UInt8 → Bool) (L : List UInt8) (p e : Nat) : ∀ (f i : Nat) (acc : List Wd), L.length - i ≤ f → i ≤ L.length → cutA R (L.drop i) i acc = .bad p e → i ≤ p ∧ p < L.length ∧ callsL (L.drop p) = false ∧ ∃ ws, cutA R ((L.take p).drop i) i acc = .ok ws
  | f, i, acc, hf, hi, h => by
    by_cases hl : L.drop i = []
    · rw [hl, cut_end] at h; cases h
    have hlen : 0 < (L.drop i).length := List.length_pos_iff.2 hl
    rw [List.length_drop] at hlen
    cases f with
    | zero => omega
    | succ f =>
      have hbl := bl_len (L.drop i)
      rw [List.length_drop] at hbl
      have hdt : ∀ q, (L.take q).drop i = (L.drop i).take (q - i) := fun q => List.drop_take
      by_cases hb : 0 < bl (L.drop i)
      · rw [cut_blank R hb, List.drop_drop] at h
        obtain ⟨h1, h2, h3, ws, h4⟩ := cut_pre R L p e f _ acc (by omega) (by omega) h
        refine ⟨by omega, h2, h3, ws, ?_⟩
        have hbt : bl ((L.take p).drop i) = bl (L.drop i) := by rw [hdt]; exact bl_take (by omega) hb
        rw [cut_blank R (by rw [hbt]; exact hb), hbt, List.drop_drop]
        exact h4
      · cases ht : tok R (L.drop i) with
        | bad e' =>
          rw [cut_bad R hl (by omega) ht] at h
          cases h
          refine ⟨Nat.le_refl _, by omega, ?_, acc, ?_⟩
          · cases hc : callsL (L.drop p) with
            | false => rfl
            | true =>
              exfalso
              have h0 := calls_head hc
              obtain ⟨r, hr⟩ : ∃ r, L.drop p = 40 :: r := by
                cases hd : L.drop p with
                | nil => rw [hd] at h0; cases h0
                | cons c r => rw [hd] at h0; simp at h0; exact ⟨r, by rw [h0]⟩
              rw [hr, tok, if_neg (by decide), if_neg (by decide)] at ht
              have hf2 : spFind (40 :: r) ≠ none := by
                intro e0
                have := List.find?_eq_none.1 e0 [40] (by decide)
                simp [Lib.hasPrefix, List.isPrefixOf] at this
              unfold spTok at ht
              split at ht
              · next e0 => exact hf2 e0
              · cases ht
          · rw [hdt, Nat.sub_self, List.take_zero]; rfl
        | ok k t n =>
          have hn := tok_len ht
          rw [List.length_drop] at hn
          rw [cut_word R (by omega) ht, List.drop_drop] at h
          obtain ⟨h1, h2, h3, ws, h4⟩ := cut_pre R L p e f _ _ (by omega) (by omega) h
          refine ⟨by omega, h2, h3, ws, ?_⟩
          have htt : tok R ((L.take p).drop i) = .ok k t n := by
            rw [hdt]
            refine tok_take ht (by omega) (by rw [List.length_drop]; omega) (fun e0 => ?_)
            rw [List.drop_drop, show i + n = p by omega]; exact h3
          have hb0 : bl ((L.take p).drop i) = 0 := by
            have : ∀ x : List UInt8, ∀ j, bl x = 0 → bl (x.take j) = 0 := by
              intro x j hx
              by_cases hz : 0 < bl (x.take j)
              · exfalso
                cases x with
                | nil => simp [bl] at hz
                | cons c r =>
                  cases j with
                  | zero => simp [bl] at hz
                  | succ j =>
                    rw [List.take_succ_cons, bl] at hz
                    rw [bl] at hx
                    split at hx
                    · cases hx
                    · next a1 =>
                      split at hx
                      · cases hx
                      · next a2 =>
                        split at hx
                        · cases hx
                        · next a3 =>
                          rw [if_neg a1, if_neg, if_neg] at hz
                          · omega
                          · rintro ⟨q1, q2, q3⟩
                            refine a3 ⟨q1, ?_, ?_⟩
                            · rw [List.head?_take] at q2; split at q2
                              · cases q2
                              · exact q2
                            · rw [tail_take8, List.head?_take] at q3; split at q3
                              · cases q3
                              · exact q3
                          · rintro ⟨q1, q2⟩
                            refine a2 ⟨q1, ?_⟩
                            rw [List.head?_take] at q2; split at q2
                            · cases q2
                            · exact q2
              · omega
            rw [hdt]; exact this _ _ (by omega)
          rw [cut_word R hb0 htt, List.drop_drop]
          exact h4
end Go.Proofs.YtdlomdbmmhjppaaGreatDoor
namespace Go.Proofs.YtdlomdbmmhjppaaGreatDoor
open Go.RowKit Go.Sort
set_option linter.unusedVariables false

theorem eq_c8 (c : UInt8) (n : Nat) (hn : n < 256) : ((c.toNat : Int) == (n : Int)) = (c == UInt8.ofNat n) := by
  rw [Bool.eq_iff_iff, beq_iff_eq, beq_iff_eq, u8 c n hn]; omega
/-- Where the next word begins, or the text ends. -/
def nextAt (L : List UInt8) : List Wd → Nat
  | [] => L.length
  | y :: _ => y.at'
theorem dig_blB {c : UInt8} (h : dig c = true) : blB c = false := by
  unfold dig at h
  simp at h
  have e : ∀ k : Nat, k < 256 → ¬ (48 ≤ k ∧ k ≤ 57) → (c == UInt8.ofNat k) = false := fun k hk hn => by
    rw [beq_eq_false_iff_ne]; intro e; rw [u8 c k hk] at e; omega
  unfold blB
  rw [show (9 : UInt8) = UInt8.ofNat 9 from rfl, show (10 : UInt8) = UInt8.ofNat 10 from rfl, show (13 : UInt8) = UInt8.ofNat 13 from rfl, show (32 : UInt8) = UInt8.ofNat 32 from rfl, show (194 : UInt8) = UInt8.ofNat 194 from rfl, show (160 : UInt8) = UInt8.ofNat 160 from rfl, show (227 : UInt8) = UInt8.ofNat 227 from rfl, show (128 : UInt8) = UInt8.ofNat 128 from rfl,
    e 9 (by decide) (by decide), e 10 (by decide) (by decide), e 13 (by decide) (by decide), e 32 (by decide) (by decide), e 194 (by decide) (by decide), e 160 (by decide) (by decide), e 227 (by decide) (by decide), e 128 (by decide) (by decide)]
  rfl
theorem Spn.next {R : List UInt8 → Bool} {L : List UInt8} {p : Nat} {l : List Wd} (h : Spn R L p l) (hp : p ≤ L.length) : p ≤ nextAt L l ∧ nextAt L l ≤ L.length ∧ Gap L p (nextAt L l) := by
  cases l with
  | nil => exact ⟨hp, Nat.le_refl _, h⟩
  | cons y l =>
    obtain ⟨h1, h2, n, h3, _⟩ := h
    have := tok_len h3
    rw [List.length_drop] at this
    exact ⟨h1, show y.at' ≤ L.length by omega, h2⟩
theorem spn_word {R : List UInt8 → Bool} {L : List UInt8} {p : Nat} {x : Wd} {l : List Wd} (h : Spn R L p (x :: l)) : ∃ n, p ≤ x.at' ∧ Gap L p x.at' ∧ 1 ≤ n ∧ x.at' + n ≤ L.length ∧ Spn R L (x.at' + n) l ∧
    ((x.kind = 1 ∧ ∃ c, L[x.at' + n - 1]? = some c ∧ blB c = false) ∨ (x.kind = 2 ∧ L[x.at' + n - 1]? = some 34) ∨ ((x.kind = 3 ∨ x.kind = 6 ∨ x.kind = 7) ∧ x.text.length = n ∧ slc L x.at' (x.at' + n) = x.text) ∨
      (x.kind = 4 ∧ x.text.length = n ∧ L[x.at' + n]? = some 40 ∧ l ≠ [] ∧ nextAt L l = x.at' + n) ∨ (x.kind = 5 ∧ x.text.length = n)) := by
  obtain ⟨h1, h2, n, h3, h4, h5⟩ := h
  have hn := tok_len h3
  rw [List.length_drop] at hn
  refine ⟨n, h1, h2, hn.1, by omega, h5, ?_⟩
  have hl : ((L.drop x.at').take n).length = n := by rw [List.length_take, List.length_drop]; omega
  have hlast : ((L.drop x.at').take n)[n - 1]? = L[x.at' + n - 1]? := by rw [List.getElem?_take, if_pos (by omega), List.getElem?_drop, show x.at' + (n - 1) = x.at' + n - 1 by omega]
  have hslc : slc L x.at' (x.at' + n) = (L.drop x.at').take n := by unfold slc; rw [Nat.add_sub_cancel_left]
  rcases tok_cases h3 with ⟨e, _, hd, _⟩ | ⟨e, _, ht, h2n⟩ | ⟨e, ht, _⟩ | ⟨e, ht, _, _, h40, _⟩ | ⟨e, ht, _⟩ | ⟨e, _, ht, _, hnl⟩
  · refine .inl ⟨e, ?_⟩
    have hlt : n - 1 < ((L.drop x.at').take n).length := by omega
    refine ⟨((L.drop x.at').take n)[n - 1], by rw [← hlast]; exact List.getElem?_eq_getElem hlt, dig_blB ?_⟩
    unfold dgs at hd
    exact List.all_eq_true.1 hd _ (List.getElem_mem _)
  · refine .inr (.inl ⟨e, ?_⟩)
    have hu := (txt_und _ _ _ ht).2.1
    rw [List.tail_drop, List.getElem?_drop] at hu
    rw [← hu]; congr 1; omega
  · exact .inr (.inr (.inl ⟨.inl e, by rw [ht]; exact hl, by rw [hslc, ht]⟩))
  · refine .inr (.inr (.inr (.inl ⟨e, by rw [ht]; unfold upp; rw [List.length_map]; exact hl, ?_, ?_, ?_⟩)))
    · rw [List.getElem?_drop] at h40; exact h40
    all_goals
      rw [List.getElem?_drop] at h40
      have hlt : x.at' + n < L.length := by
        rcases Nat.lt_or_ge (x.at' + n) L.length with q | q
        · exact q
        · rw [List.getElem?_eq_none q] at h40; cases h40
    · rintro rfl
      obtain ⟨c, c1, c2⟩ := h5 (x.at' + n) (Nat.le_refl _) hlt
      rw [h40] at c1; cases c1; revert c2; decide
    · have hnx := h5.next (by omega)
      rcases Nat.lt_or_ge (x.at' + n) (nextAt L l) with q | q
      · obtain ⟨c, c1, c2⟩ := hnx.2.2 (x.at' + n) (Nat.le_refl _) q
        rw [h40] at c1; cases c1; exact absurd c2 (by decide)
      · omega
  · exact .inr (.inr (.inr (.inr ⟨e, by rw [ht]; unfold upp; rw [List.length_map]; exact hl⟩)))
  · exact .inr (.inr (.inl ⟨.inr e, by rw [ht]; exact hl, by rw [hslc, ← ht]⟩))
end Go.Proofs.YtdlomdbmmhjppaaGreatDoor
namespace Go.Proofs.YtdlomdbmmhjppaaGreatDoor
open Go.RowKit
set_option linter.unusedVariables false

/-- Each quote twice. -/
def dbl (t : List UInt8) : List UInt8 := t.flatMap fun c => if c = 34 then [34, 34] else [c]
/-- A word as it is written. -/
def spl (x : Wd) : List UInt8 := if x.kind = 2 then [34] ++ dbl x.text ++ [34] else x.text
/-- A word that stands by itself. -/
def Good (R : List UInt8 → Bool) (k : Nat) (t : List UInt8) : Prop :=
  (k = 1 ∧ t ≠ [] ∧ dgs t = true ∧ trim0 t = t ∧ val t ≤ 9223372036854775807) ∨ k = 2 ∨
  (k = 3 ∧ t ≠ [] ∧ R t = true ∧ t.all isRun = true ∧ (∀ c, t.head? = some c → dig c = false)) ∨
  (k = 4 ∧ t ≠ [] ∧ upp t = t ∧ plainN t = true ∧ t.all isRun = true ∧ (∀ c, t.head? = some c → dig c = false)) ∨
  (k = 5 ∧ (t = truL ∨ t = falL)) ∨ ((k = 6 ∨ k = 7) ∧ k = spKind t ∧ t ∈ spelts)
/-- What may stand behind it: nothing, a blank, or behind a function's name its parenthesis. -/
def Behind (k : Nat) (rest : List UInt8) : Prop := if k = 4 then rest.head? = some 40 else rest = [] ∨ 0 < bl rest
theorem bl_head {l : List UInt8} (h : 0 < bl l) : ∃ c, l.head? = some c ∧ isRun c = false ∧ c ≠ 34 ∧ c ≠ 61 ∧ c ≠ 62 ∧ c ≠ 40 := by
  obtain ⟨c, h1, h2⟩ := bl_bytes l 0 h
  refine ⟨c, by rw [List.head?_eq_getElem?]; exact h1, ?_⟩
  unfold blB at h2
  simp only [Bool.or_eq_true, beq_iff_eq] at h2
  rcases h2 with rfl | rfl | rfl | rfl | rfl | rfl | rfl | rfl <;> decide
theorem run_app {t rest : List UInt8} (ht : t.all isRun = true) (hr : ∀ c, rest.head? = some c → isRun c = false) : runOf (t ++ rest) = t := by
  unfold runOf
  induction t with
  | nil =>
    cases rest with
    | nil => rfl
    | cons c r => rw [List.nil_append, List.takeWhile_cons, hr c rfl]; rfl
  | cons c t ih =>
    rw [List.all_cons, Bool.and_eq_true] at ht
    rw [List.cons_append, List.takeWhile_cons, if_pos ht.1, ih ht.2]
theorem dgs_run {t : List UInt8} (h : dgs t = true) : t.all isRun = true := by
  unfold dgs at h
  rw [List.all_eq_true] at h ⊢
  intro c hc
  unfold isRun
  rw [h c hc]; rfl
theorem txt_dbl : ∀ (t rest : List UInt8), rest.head? ≠ some 34 → txt (dbl t ++ 34 :: rest) = some (t, (dbl t).length + 1)
  | [], rest, h => by
    cases rest with
    | nil => rfl
    | cons d r =>
      have hd : d ≠ 34 := fun e => h (by rw [e]; rfl)
      simp [dbl, txt, hd]
  | c :: t, rest, h => by
    have ih := txt_dbl t rest h
    have hd : dbl (c :: t) = (if c = 34 then [34, 34] else [c]) ++ dbl t := by simp [dbl]
    rw [hd]
    by_cases hc : c = 34
    · subst hc
      rw [if_pos rfl]
      show txt (34 :: 34 :: (dbl t ++ 34 :: rest)) = _
      rw [txt, if_pos rfl, if_pos rfl, ih]
      simp
    · rw [if_neg hc]
      show txt (c :: (dbl t ++ 34 :: rest)) = _
      cases hq : dbl t ++ 34 :: rest with
      | nil => simp at hq
      | cons d r =>
        rw [txt, if_neg hc, ← hq, ih]
        simp
theorem sp_app {p rest : List UInt8} (hp : p ∈ spelts) (hr : rest = [] ∨ ∃ c r, rest = c :: r ∧ c ≠ 61 ∧ c ≠ 62) : spFind (p ++ rest) = some p := by
  unfold spelts at hp
  simp only [List.mem_cons, List.not_mem_nil, or_false] at hp
  rcases hr with rfl | ⟨c, r, rfl, h1, h2⟩
  · rcases hp with rfl | rfl | rfl | rfl | rfl | rfl | rfl | rfl | rfl | rfl | rfl | rfl | rfl | rfl | rfl | rfl | rfl | rfl | rfl | rfl | rfl | rfl | rfl <;> rfl
  · have h1' : ((61 : UInt8) == c) = false := by rw [beq_eq_false_iff_ne]; exact fun e => h1 e.symm
    have h2' : ((62 : UInt8) == c) = false := by rw [beq_eq_false_iff_ne]; exact fun e => h2 e.symm
    rcases hp with rfl | rfl | rfl | rfl | rfl | rfl | rfl | rfl | rfl | rfl | rfl | rfl | rfl | rfl | rfl | rfl | rfl | rfl | rfl | rfl | rfl | rfl | rfl <;>
      simp [spFind, spelts, Lib.hasPrefix, List.isPrefixOf, h1', h2']
theorem sp_no_run : spelts.all (fun p => (p.head?.map fun c => !isRun c && c != 34).getD false) = true := by decide +kernel
theorem calls_of {rest : List UInt8} (h : rest = [] ∨ 0 < bl rest) : callsL rest = false := by
  rcases h with rfl | h
  · rfl
  · obtain ⟨c, h1, _, _, _, _, h40⟩ := bl_head h
    cases rest with
    | nil => cases h1
    | cons d r =>
      cases h1
      unfold callsL Lib.hasPrefix
      simp [List.isPrefixOf]
      exact fun e => h40 e.symm
theorem run_behind {k : Nat} {rest : List UInt8} (h : Behind k rest) : ∀ c, rest.head? = some c → isRun c = false := by
  intro c hc
  unfold Behind at h
  split at h
  · rw [h] at hc; cases hc; decide
  · rcases h with rfl | h
    · cases hc
    · obtain ⟨d, h1, h2, _⟩ := bl_head h
      rw [h1] at hc; cases hc; exact h2
theorem tok_good {R : List UInt8 → Bool} (hR : ∀ t, R t = true → upp t ≠ truL ∧ upp t ≠ falL) {x : Wd} (hg : Good R x.kind x.text) {rest : List UInt8} (hb : Behind x.kind rest) :
    tok R (spl x ++ rest) = .ok x.kind x.text (spl x).length := by
  obtain ⟨k, t, a⟩ := x
  simp only at hg hb ⊢
  have hrn := run_behind hb
  have run : ∀ (hk : k ≠ 2) (hne : t ≠ []) (ha : t.all isRun = true), tok R (spl ⟨k, t, a⟩ ++ rest) = runTok R t (callsL rest) := fun hk hne ha => by
    have hsp : spl ⟨k, t, a⟩ = t := by unfold spl; rw [if_neg hk]
    rw [hsp]
    have hro := run_app ha hrn
    cases ht : t with
    | nil => exact absurd ht hne
    | cons c r =>
      rw [ht] at ha hro
      rw [List.all_cons, Bool.and_eq_true] at ha
      unfold tok
      rw [List.cons_append] at hro ⊢
      simp only
      rw [if_pos ha.1, hro, ← List.cons_append, List.drop_left]
  rcases hg with ⟨rfl, hne, hd, htr, hv⟩ | rfl | ⟨rfl, hne, hr, ha, hdg⟩ | ⟨rfl, hne, hu, hpl, ha, hdg⟩ | ⟨rfl, ht⟩ | ⟨hk, hsk, hm⟩
  · rw [run (by decide) hne (dgs_run hd)]
    have hsp : spl ⟨1, t, a⟩ = t := rfl
    rw [hsp]
    unfold runTok
    cases t with
    | nil => exact absurd rfl hne
    | cons c r =>
      have hc : dig c = true := by unfold dgs at hd; rw [List.all_cons, Bool.and_eq_true] at hd; exact hd.1
      simp only [List.head?_cons, Option.map_some, Option.getD_some, hc, if_pos]
      unfold numTok
      rw [if_pos hd, htr, if_pos hv]
  · unfold Behind at hb
    rw [if_neg (by decide)] at hb
    have hh : rest.head? ≠ some 34 := by
      rcases hb with rfl | hb
      · simp
      · obtain ⟨c, h1, _, h34, _⟩ := bl_head hb
        rw [h1]; exact fun e => h34 (Option.some.inj e)
    have hsp : spl ⟨2, t, a⟩ = 34 :: (dbl t ++ [34]) := rfl
    rw [hsp, List.cons_append, List.append_assoc]
    unfold tok
    simp only
    rw [if_neg (by decide), if_pos trivial]
    unfold txtTok
    rw [show ([34] : List UInt8) ++ rest = 34 :: rest from rfl, txt_dbl t rest hh]
    simp
  · unfold Behind at hb
    rw [if_neg (by decide)] at hb
    rw [run (by decide) hne ha, calls_of hb]
    have hsp : spl ⟨3, t, a⟩ = t := rfl
    rw [hsp]
    unfold runTok
    cases t with
    | nil => exact absurd rfl hne
    | cons c r =>
      have := hdg c rfl
      simp only [List.head?_cons, Option.map_some, Option.getD_some, this]
      unfold namTok
      obtain ⟨h1, h2⟩ := hR _ hr
      rw [if_neg (by decide), if_neg (by simp [h1, h2]), if_neg (by simp), if_pos hr]
  · unfold Behind at hb
    rw [if_pos rfl] at hb
    have hca : callsL rest = true := by
      cases rest with
      | nil => cases hb
      | cons c r => cases hb; rfl
    rw [run (by decide) hne ha, hca]
    have hsp : spl ⟨4, t, a⟩ = t := rfl
    rw [hsp]
    unfold runTok
    cases t with
    | nil => exact absurd rfl hne
    | cons c r =>
      have := hdg c rfl
      simp only [List.head?_cons, Option.map_some, Option.getD_some, this]
      unfold namTok
      rw [if_neg (by decide), if_neg (by simp), if_pos (by simp [hpl]), hu]
  · unfold Behind at hb
    rw [if_neg (by decide)] at hb
    rw [run (by decide) (by rcases ht with rfl | rfl <;> decide) (by rcases ht with rfl | rfl <;> decide), calls_of hb]
    have hsp : spl ⟨5, t, a⟩ = t := rfl
    rw [hsp]
    rcases ht with rfl | rfl <;> rfl
  · have hk2 : k ≠ 2 := by omega
    have hk4 : k ≠ 4 := by omega
    unfold Behind at hb
    rw [if_neg hk4] at hb
    have hsp : spl ⟨k, t, a⟩ = t := by unfold spl; rw [if_neg hk2]
    rw [hsp]
    have hq := List.all_eq_true.1 sp_no_run t hm
    have hf : spFind (t ++ rest) = some t := sp_app hm (by
      rcases hb with rfl | hb
      · exact .inl rfl
      · obtain ⟨c, h1, _, _, h61, h62, _⟩ := bl_head hb
        cases rest with
        | nil => cases h1
        | cons d r => cases h1; exact .inr ⟨_, _, rfl, h61, h62⟩)
    cases t with
    | nil => simp at hq
    | cons c r =>
      simp only [List.head?_cons, Option.map_some, Option.getD_some, Bool.and_eq_true, Bool.not_eq_true', bne_iff_ne] at hq
      rw [List.cons_append] at hf ⊢
      unfold tok
      simp only
      rw [if_neg (by rw [hq.1]; decide), if_neg hq.2]
      unfold spTok
      rw [hf, hsk]
theorem trim0_trim (r : List UInt8) (h : dgs r = true) (hne : r ≠ []) : trim0 (trim0 r) = trim0 r ∧ trim0 r ≠ [] ∧ dgs (trim0 r) = true := by
  have hm : ∀ c ∈ r.dropWhile (· == 48), c ∈ r := fun c hc => (List.dropWhile_suffix _).subset hc
  unfold trim0
  cases hq : r.dropWhile (· == 48) with
  | nil => refine ⟨?_, ?_, ?_⟩ <;> simp [List.dropWhile, dgs, dig]
  | cons c l =>
    have hc : (c == 48) = false := by
      have := List.head_dropWhile_not (p := fun x : UInt8 => x == 48) (l := r) (by rw [hq]; simp)
      simpa [hq] using this
    refine ⟨?_, by simp, ?_⟩
    · simp [hc]
    · simp only [List.isEmpty_cons]
      unfold dgs at h ⊢
      rw [List.all_eq_true] at h
      simp only [Bool.false_eq_true, if_false]
      rw [List.all_eq_true]
      intro x hx
      exact h x (hm x (by rw [hq]; exact hx))
theorem up_all : ∀ n : Fin 256, (Lib.upperB (Lib.upperB (UInt8.ofNat n.val)) == Lib.upperB (UInt8.ofNat n.val)) = true ∧ dig (Lib.upperB (UInt8.ofNat n.val)) = dig (UInt8.ofNat n.val) ∧
    (!(isL (UInt8.ofNat n.val) || dig (UInt8.ofNat n.val)) || ((isL (Lib.upperB (UInt8.ofNat n.val)) || dig (Lib.upperB (UInt8.ofNat n.val))) && isRun (Lib.upperB (UInt8.ofNat n.val)))) = true := by decide +kernel
theorem up8 (c : UInt8) : Lib.upperB (Lib.upperB c) = Lib.upperB c ∧ dig (Lib.upperB c) = dig c ∧ ((isL c || dig c) = true → (isL (Lib.upperB c) || dig (Lib.upperB c)) = true ∧ isRun (Lib.upperB c) = true) := by
  have h := up_all ⟨c.toNat, c.toNat_lt⟩
  rw [UInt8.ofNat_toNat] at h
  refine ⟨by simpa using h.1, h.2.1, fun e => ?_⟩
  have h3 := h.2.2
  rw [e] at h3
  simpa using h3
theorem good_of {R : List UInt8 → Bool} {l : List UInt8} {k n : Nat} {t : List UInt8} (h : tok R l = .ok k t n) : Good R k t := by
  have hl := tok_len h
  have hne : l.take n ≠ [] := by
    intro e
    have := congrArg List.length e
    rw [List.length_take, List.length_nil] at this
    omega
  have hall : runOf l = l.take n → (l.take n).all isRun = true := fun e => by rw [← e]; unfold runOf; exact List.all_takeWhile
  have hhd : (l.take n).head? = l.head? := by
    cases l with
    | nil => simp
    | cons c r => obtain ⟨m, rfl⟩ : ∃ m, n = m + 1 := ⟨n - 1, by omega⟩; rfl
  rcases tok_cases h with ⟨rfl, rfl, hd, hv, hr⟩ | ⟨rfl, _⟩ | ⟨rfl, rfl, hR, hr, hc⟩ | ⟨rfl, rfl, hp, hr, _, hc⟩ | ⟨rfl, rfl, ht, _⟩ | ⟨hk, hs, rfl, hf, hn⟩
  · obtain ⟨h1, h2, h3⟩ := trim0_trim _ hd hne
    exact .inl ⟨rfl, h2, h3, h1, hv⟩
  · exact .inr (.inl rfl)
  · exact .inr (.inr (.inl ⟨rfl, hne, hR, hall hr, fun c e => (hc c (by rw [← hhd]; exact e)).2⟩))
  · refine .inr (.inr (.inr (.inl ⟨rfl, ?_, ?_, ?_, ?_, ?_⟩)))
    · unfold upp; simpa using hne
    · unfold upp; rw [List.map_map]; exact List.map_congr_left fun c _ => (up8 c).1
    · unfold plainN upp at *
      rw [List.all_eq_true] at hp ⊢
      intro c hc'
      obtain ⟨d, hd, rfl⟩ := List.mem_map.1 hc'
      exact ((up8 d).2.2 (hp d hd)).1
    · unfold plainN at hp
      unfold upp
      rw [List.all_eq_true] at hp ⊢
      intro c hc'
      obtain ⟨d, hd, rfl⟩ := List.mem_map.1 hc'
      exact ((up8 d).2.2 (hp d hd)).2
    · intro c e
      unfold upp at e
      rw [List.head?_map, hhd] at e
      cases hl0 : l.head? with
      | none => rw [hl0] at e; cases e
      | some d => rw [hl0] at e; cases e; rw [(up8 d).2.1]; exact (hc d hl0).2
  · exact .inr (.inr (.inr (.inr (.inl ⟨rfl, ht⟩))))
  · exact .inr (.inr (.inr (.inr (.inr ⟨hk, hs, (sp_mem hf).1⟩))))
/-- The eight blanks. -/
def blks : List (List UInt8) := [[32], [9], [10], [13], [194, 160], [227, 128, 128], [32, 32], [32, 194, 160, 9]]
theorem blk_bl {b rest : List UInt8} (h : b ∈ blks) : 0 < bl (b ++ rest) := by
  unfold blks at h
  simp only [List.mem_cons, List.not_mem_nil, or_false] at h
  rcases h with rfl | rfl | rfl | rfl | rfl | rfl | rfl | rfl <;> simp [bl]
theorem blk_cut (R : List UInt8 → Bool) {b rest : List UInt8} (h : b ∈ blks) (i : Nat) (acc : List Wd) : cutA R (b ++ rest) i acc = cutA R rest (i + b.length) acc := by
  unfold blks at h
  simp only [List.mem_cons, List.not_mem_nil, or_false] at h
  have one : ∀ (c : UInt8) (l : List UInt8) (j : Nat), (c = 9 ∨ c = 10 ∨ c = 13 ∨ c = 32) → cutA R (c :: l) j acc = cutA R l (j + 1) acc := fun c l j hc => by
    have hb : bl (c :: l) = 1 := by rw [bl, if_pos hc]
    rw [cut_blank R (by rw [hb]; decide), hb]; rfl
  have two : ∀ (l : List UInt8) (j : Nat), cutA R (194 :: 160 :: l) j acc = cutA R l (j + 2) acc := fun l j => by
    have hb : bl (194 :: 160 :: l) = 2 := by simp [bl]
    rw [cut_blank R (by rw [hb]; decide), hb]; rfl
  have three : ∀ (l : List UInt8) (j : Nat), cutA R (227 :: 128 :: 128 :: l) j acc = cutA R l (j + 3) acc := fun l j => by
    have hb : bl (227 :: 128 :: 128 :: l) = 3 := by simp [bl]
    rw [cut_blank R (by rw [hb]; decide), hb]; rfl
  rcases h with rfl | rfl | rfl | rfl | rfl | rfl | rfl | rfl
  · exact one _ _ _ (by decide)
  · exact one _ _ _ (by decide)
  · exact one _ _ _ (by decide)
  · exact one _ _ _ (by decide)
  · exact two _ _
  · exact three _ _
  · exact (one _ _ _ (by decide)).trans (one _ _ _ (by decide))
  · exact (one _ _ _ (by decide)).trans ((two _ _).trans (one _ _ _ (by decide)))
/-- What is written: the words from the one at i on, p the kind of the one ahead (4 at the front), q what stands between. -/
def bld (q : Nat → List UInt8) : Nat → Nat → List Wd → List UInt8
  | p, i, [] => []
  | p, i, x :: l => (if p = 4 then [] else q i) ++ spl x ++ bld q x.kind (i + 1) l
/-- The same words, each where it is written. -/
def bls (q : Nat → List UInt8) : Nat → Nat → Nat → List Wd → List Wd
  | p, i, a, [] => []
  | p, i, a, x :: l => { x with at' := a + (if p = 4 then [] else q i).length } :: bls q x.kind (i + 1) (a + ((if p = 4 then [] else q i) ++ spl x).length) l
/-- Words that stand by themselves; a function's name has its parenthesis behind it. -/
def Goods (R : List UInt8 → Bool) : List Wd → Prop
  | [] => True
  | x :: l => Good R x.kind x.text ∧ (x.kind = 4 → ∃ y m, l = y :: m ∧ y.kind = 7 ∧ y.text = [40]) ∧ Goods R l
theorem sp_no_bl : spelts.all (fun p => (p.head?.map fun c => !blB c).getD false) = true := by decide +kernel
theorem run_no_bl : ∀ n : Fin 256, (!isRun (UInt8.ofNat n.val) || !blB (UInt8.ofNat n.val)) = true := by decide +kernel
theorem bl_first {c : UInt8} {l : List UInt8} (h : blB c = false) : bl (c :: l) = 0 := by
  rcases Nat.eq_zero_or_pos (bl (c :: l)) with h0 | h0
  · exact h0
  · obtain ⟨d, h1, h2⟩ := bl_bytes _ 0 h0
    cases h1
    rw [h] at h2; cases h2
theorem run_blB {c : UInt8} (h : isRun c = true) : blB c = false := by
  have := run_no_bl ⟨c.toNat, c.toNat_lt⟩
  rw [UInt8.ofNat_toNat, h] at this
  simpa using this
theorem spl_head {R : List UInt8 → Bool} {x : Wd} (h : Good R x.kind x.text) : ∃ c r, spl x = c :: r ∧ blB c = false := by
  obtain ⟨k, t, a⟩ := x
  simp only at h
  have run : ∀ (hk : k ≠ 2) (hne : t ≠ []) (ha : t.all isRun = true), ∃ c r, spl ⟨k, t, a⟩ = c :: r ∧ blB c = false := fun hk hne ha => by
    cases t with
    | nil => exact absurd rfl hne
    | cons c r => rw [List.all_cons, Bool.and_eq_true] at ha; exact ⟨c, r, by unfold spl; rw [if_neg hk], run_blB ha.1⟩
  rcases h with ⟨rfl, hne, hd, _⟩ | rfl | ⟨rfl, hne, _, ha, _⟩ | ⟨rfl, hne, _, _, ha, _⟩ | ⟨rfl, ht⟩ | ⟨hk, hsk, hm⟩
  · exact run (by decide) hne (dgs_run hd)
  · exact ⟨34, _, rfl, rfl⟩
  · exact run (by decide) hne ha
  · exact run (by decide) hne ha
  · exact run (by decide) (by rcases ht with rfl | rfl <;> decide) (by rcases ht with rfl | rfl <;> decide)
  · have hq := List.all_eq_true.1 sp_no_bl t hm
    cases t with
    | nil => simp at hq
    | cons c r => exact ⟨c, r, by unfold spl; rw [if_neg (show ¬ k = 2 by omega)], by simpa using hq⟩
theorem bl_app {R : List UInt8 → Bool} {x : Wd} (h : Good R x.kind x.text) {rest : List UInt8} : bl (spl x ++ rest) = 0 := by
  obtain ⟨c, r, e, hc⟩ := spl_head h
  rw [e, List.cons_append]; exact bl_first hc
theorem bld_cut {R : List UInt8 → Bool} (hR : ∀ t, R t = true → upp t ≠ truL ∧ upp t ≠ falL) (q : Nat → List UInt8) (hq : ∀ i, q i ∈ blks) : ∀ (l : List Wd) (p i a : Nat) (acc : List Wd), Goods R l → cutA R (bld q p i l) a acc = .ok (acc ++ bls q p i a l)
  | [], p, i, a, acc, h => by simp [bld, bls, cut_end]
  | x :: l, p, i, a, acc, h => by
    obtain ⟨h1, h2, h3⟩ := h
    have hb : Behind x.kind (bld q x.kind (i + 1) l) := by
      unfold Behind
      split
      · next h4 =>
        obtain ⟨y, m, rfl, h5, h6⟩ := h2 h4
        rw [h4, bld, if_pos rfl]
        unfold spl
        rw [h5, if_neg (by decide), h6]; rfl
      · next h4 =>
        cases l with
        | nil => exact .inl rfl
        | cons y m => rw [bld, if_neg h4, List.append_assoc]; exact .inr (blk_bl (hq _))
    have ht := tok_good hR h1 hb
    rw [bld, bls]
    have go : ∀ (b : List UInt8) (hbb : b = [] ∨ b ∈ blks), cutA R (b ++ spl x ++ bld q x.kind (i + 1) l) a acc = .ok (acc ++ ({ x with at' := a + b.length } :: bls q x.kind (i + 1) (a + (b ++ spl x).length) l)) := fun b hbb => by
      have e1 : cutA R (b ++ spl x ++ bld q x.kind (i + 1) l) a acc = cutA R (spl x ++ bld q x.kind (i + 1) l) (a + b.length) acc := by
        rcases hbb with rfl | hbb
        · rfl
        · rw [List.append_assoc]; exact blk_cut R hbb _ _
      rw [e1, cut_word R (bl_app h1) ht, List.drop_left, bld_cut hR q hq l _ _ _ _ h3, List.length_append, Nat.add_assoc]
      simp
    split
    · exact go [] (.inl rfl)
    · exact go (q i) (.inr (hq i))
end Go.Proofs.YtdlomdbmmhjppaaGreatDoor
namespace Go.Proofs.YtdlomdbmmhjppaaGreatDoor
open Go.RowKit Go.Sort
set_option linter.unusedVariables false

theorem refL_no {t : List UInt8} (h : refL t = true) : upp t ≠ truL ∧ upp t ≠ falL := by
  unfold refL at h
  rw [decide_eq_true_eq, ba_size] at h
  by_cases h0 : t = []
  · subst h0; decide
  have hpos : 0 < t.length := List.length_pos_iff.2 h0
  unfold rN at h
  split at h
  · omega
  · next hs =>
    have hle := cut_le (ba t)
    have hne : cD (ba t) ≠ cC (ba t) := by
      intro e
      apply hs
      unfold synS
      rw [e]; simp
    have hlt : cD (ba t) - 1 < (ba t).size := by omega
    have hd := runE_all dig (ba t) (cC (ba t)) (cD (ba t) - 1) (by omega) (by show _ < cD (ba t); omega) hlt
    have hlast : t[t.length - 1]? = some (ba t)[cD (ba t) - 1] := by
      rw [List.getElem?_eq_getElem (by omega)]
      congr 1
      show t[t.length - 1] = (ba t).data[cD (ba t) - 1]
      simp only [h]
      simp
    generalize (ba t)[cD (ba t) - 1] = c at *
    have hu : (upp t)[t.length - 1]? = some (Lib.upperB c) := by unfold upp; rw [List.getElem?_map, hlast]; rfl
    have hlen : (upp t).length = t.length := by unfold upp; simp
    have h2 := (up8 c).2.1
    rw [hd] at h2
    constructor
    · intro e
      rw [← hlen, e] at hu
      have : Lib.upperB c = 69 := (Option.some.inj hu).symm
      rw [this] at h2
      exact absurd h2 (by decide)
    · intro e
      rw [← hlen, e] at hu
      have : Lib.upperB c = 69 := (Option.some.inj hu).symm
      rw [this] at h2
      exact absurd h2 (by decide)
theorem tok_paren (R : List UInt8 → Bool) (r : List UInt8) : tok R (40 :: r) = .ok 7 [40] 1 := by
  have hf : spFind (40 :: r) = some [40] := by simp [spFind, spelts, Lib.hasPrefix, List.isPrefixOf]
  unfold tok
  simp only
  rw [if_neg (by decide), if_neg (by decide)]
  unfold spTok
  rw [hf]; rfl
theorem spn_goods {R : List UInt8 → Bool} {L : List UInt8} : ∀ (l : List Wd) (p : Nat), Spn R L p l → Goods R l
  | [], p, h => trivial
  | x :: l, p, h => by
    obtain ⟨n, _, _, _, _, h5, h6⟩ := spn_word h
    obtain ⟨_, _, n', h3, _, _⟩ := h
    refine ⟨good_of h3, fun h4 => ?_, spn_goods l _ h5⟩
    rcases h6 with ⟨e, _⟩ | ⟨e, _⟩ | ⟨e, _⟩ | ⟨_, _, h40, hne, hnx⟩ | ⟨e, _⟩
    · omega
    · omega
    · omega
    · cases l with
      | nil => exact absurd rfl hne
      | cons y m =>
        have hy : y.at' = x.at' + n := hnx
        obtain ⟨_, _, k, hk, _, _⟩ := h5
        rw [hy] at hk
        have hd : L.drop (x.at' + n) = 40 :: L.drop (x.at' + n + 1) := by
          obtain ⟨q1, q2⟩ := List.getElem?_eq_some_iff.1 h40
          rw [List.drop_eq_getElem_cons q1, q2]
        rw [hd, tok_paren] at hk
        cases hyk : y with
        | mk yk yt ya =>
          rw [hyk] at hk
          simp only [Tok.ok.injEq] at hk
          exact ⟨_, _, rfl, hk.1.symm, hk.2.1.symm⟩
    · omega
theorem cutR_goods {s : ByteArray} {ws : List Wd} (h : cutR s = .ok ws) : Goods refL ws := by
  unfold cutR at h
  split at h
  · cases h
  · obtain ⟨l, e, hs⟩ := cut_spn refL s.data.toList _ 0 [] ws (Nat.le_refl _) (Nat.zero_le _) h
    rw [List.nil_append] at e
    rw [e]; exact spn_goods l 0 hs
/-- LexBlanks, of lists of bytes. -/
theorem blanks_same {s : ByteArray} {ws : List Wd} (h : cutR s = .ok ws) (q : Nat → List UInt8) (hq : ∀ i, q i ∈ blks) (hz : (bld q 4 0 ws).length ≤ 65535) : cutR (ba (bld q 4 0 ws)) = .ok (bls q 4 0 0 ws) := by
  unfold cutR
  rw [if_neg (by rw [ba_size]; omega), ba_list, bld_cut (fun t => refL_no) q hq ws 4 0 0 [] (cutR_goods h), List.nil_append]
theorem bls_len (q : Nat → List UInt8) : ∀ (l : List Wd) (p i a : Nat), (bls q p i a l).length = l.length
  | [], p, i, a => rfl
  | x :: l, p, i, a => by rw [bls, List.length_cons, List.length_cons, bls_len q l]
end Go.Proofs.YtdlomdbmmhjppaaGreatDoor
