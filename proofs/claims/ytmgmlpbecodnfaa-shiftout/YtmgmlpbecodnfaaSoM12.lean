/- What rows are taken out of a range, row by row; no Go in sight. -/
import Derived.Test.YtmgmlpbecodnfaaBegun12
namespace Go.Proofs.Ytmgmlpbecodnfaa
open Go.RowKit Go.Sort
set_option linter.unusedVariables false

def rowsF (lo a e r : Int) : Int := max 0 (min r a - lo) + max 0 (r - max lo e)
def firstF (lo a e n r : Int) : Int := if rowsF lo a e r ≤ 0 then -1 else if lo < a then lo else max lo e - n
def lastF (lo a e n r : Int) : Int := if rowsF lo a e r ≤ 0 then -1 else if e < r then r - 1 - n else min r a - 1
theorem so_0 {lo a e n : Int} (h : a < e) : rowsF lo a e lo = 0 ∧ firstF lo a e n lo = -1 ∧ lastF lo a e n lo = -1 := by
  have h0 : rowsF lo a e lo = 0 := by unfold rowsF; omega
  refine ⟨h0, ?_, ?_⟩
  · unfold firstF; rw [h0, if_pos (by omega)]
  · unfold lastF; rw [h0, if_pos (by omega)]
theorem so_ge {lo a e n r : Int} (hn : e = a + n) (ha : 0 ≤ a) (hlo : 0 ≤ lo) : 0 ≤ rowsF lo a e r ∧ (0 < rowsF lo a e r → 0 ≤ firstF lo a e n r) := by
  have h0 : 0 ≤ rowsF lo a e r := by unfold rowsF; omega
  refine ⟨h0, fun h => ?_⟩
  unfold firstF
  rw [if_neg (by omega)]
  split <;> omega
theorem so_A {lo a e n r : Int} (hn : e = a + n) (h1 : 1 ≤ n) (hlo : lo ≤ r) (h : r < a) : rowsF lo a e (r + 1) = rowsF lo a e r + 1 ∧ lastF lo a e n (r + 1) = r ∧ (rowsF lo a e r ≤ 0 → firstF lo a e n (r + 1) = r) ∧ (0 < rowsF lo a e r → firstF lo a e n (r + 1) = firstF lo a e n r) := by
  have h0 : rowsF lo a e (r + 1) = rowsF lo a e r + 1 := by unfold rowsF; omega
  have hp : 0 ≤ rowsF lo a e r := by unfold rowsF; omega
  refine ⟨h0, ?_, fun hq => ?_, fun hq => ?_⟩
  · unfold lastF; rw [h0, if_neg (by omega), if_neg (by omega)]; omega
  · unfold firstF; rw [h0, if_neg (by omega), if_pos (by omega)]; unfold rowsF at hq; omega
  · unfold firstF; rw [h0, if_neg (show ¬ (rowsF lo a e r + 1 ≤ 0) by omega), if_neg (show ¬ (rowsF lo a e r ≤ 0) by omega)]
theorem so_B {lo a e n r : Int} (hn : e = a + n) (h1 : 1 ≤ n) (hlo : lo ≤ r) (h : e ≤ r) : rowsF lo a e (r + 1) = rowsF lo a e r + 1 ∧ lastF lo a e n (r + 1) = r - n ∧ (rowsF lo a e r ≤ 0 → firstF lo a e n (r + 1) = r - n) ∧ (0 < rowsF lo a e r → firstF lo a e n (r + 1) = firstF lo a e n r) := by
  have h0 : rowsF lo a e (r + 1) = rowsF lo a e r + 1 := by unfold rowsF; omega
  have hp : 0 ≤ rowsF lo a e r := by unfold rowsF; omega
  refine ⟨h0, ?_, fun hq => ?_, fun hq => ?_⟩
  · unfold lastF; rw [h0, if_neg (by omega), if_pos (by omega)]; omega
  · unfold firstF; rw [h0, if_neg (by omega)]; unfold rowsF at hq; rw [if_neg (by omega)]; omega
  · unfold firstF; rw [h0, if_neg (show ¬ (rowsF lo a e r + 1 ≤ 0) by omega), if_neg (show ¬ (rowsF lo a e r ≤ 0) by omega)]
theorem so_C {lo a e n r : Int} (hn : e = a + n) (h1 : 1 ≤ n) (hlo : lo ≤ r) (h : a ≤ r) (h' : r < e) : rowsF lo a e (r + 1) = rowsF lo a e r ∧ lastF lo a e n (r + 1) = lastF lo a e n r ∧ firstF lo a e n (r + 1) = firstF lo a e n r := by
  have h0 : rowsF lo a e (r + 1) = rowsF lo a e r := by unfold rowsF; omega
  refine ⟨h0, ?_, ?_⟩
  · unfold lastF; rw [h0]; split
    · rfl
    · rw [if_neg (by omega), if_neg (by omega)]; omega
  · unfold firstF; rw [h0]
theorem so_bd {lo a e n r : Int} (hn : e = a + n) (ha : 0 ≤ a) (h1 : 1 ≤ n) (hlo : 0 ≤ lo) (hr : lo ≤ r) (hu : r ≤ 65536) (ha' : a ≤ 65535) : rowsF lo a e r ≤ 65536 ∧ -1 ≤ firstF lo a e n r ∧ firstF lo a e n r ≤ 65536 ∧ -1 ≤ lastF lo a e n r ∧ lastF lo a e n r ≤ 65536 := by
  have h0 : rowsF lo a e r ≤ 65536 := by unfold rowsF; omega
  refine ⟨h0, ?_, ?_, ?_, ?_⟩
  · unfold firstF; split; omega; split <;> omega
  · unfold firstF; split; omega; rename_i q; unfold rowsF at q; split <;> omega
  · unfold lastF; split; omega; rename_i q; unfold rowsF at q; split <;> omega
  · unfold lastF; split; omega; split <;> omega
/-- One number, where n of them are taken out. -/
theorem lnow_out {x y a n : Int} (h1 : 1 ≤ n) (h2 : n ≤ 65536) : lnow x y a (-n) = if x < a then x else if a + n ≤ x then x - n else if y < a then a - 1 else if a + n ≤ y then a else -1 := by
  unfold lnow stp
  by_cases c1 : x < a
  · rw [if_pos c1, if_pos c1]
  · rw [if_neg c1, if_neg c1, if_neg (by omega)]
    have e : a - max (-n) (-65536) = a + n := by omega
    rw [e]
    by_cases c2 : a + n ≤ x
    · rw [if_pos c2, if_pos c2]; omega
    · rw [if_neg c2, if_neg c2]
/-- Both ends, told by what stays. -/
theorem so_ends {x y a n : Int} (h1 : 1 ≤ n) (h2 : n ≤ 65536) (ha : 0 ≤ a) (hx : 0 ≤ x) (hy : 0 ≤ y) (hxy : x ≤ y) (hne : ¬ ((a ≤ x ∧ x < a + n) ∧ (a ≤ y ∧ y < a + n))) :
    lnow x y a (-n) = firstF x a (a + n) n (y + 1) ∧ lnow y x a (-n) = lastF x a (a + n) n (y + 1) ∧ lastF x a (a + n) n (y + 1) - firstF x a (a + n) n (y + 1) + 1 = rowsF x a (a + n) (y + 1) ∧ 0 < rowsF x a (a + n) (y + 1) := by
  have h0 : 0 < rowsF x a (a + n) (y + 1) := by unfold rowsF; omega
  have hf : firstF x a (a + n) n (y + 1) = if x < a then x else max x (a + n) - n := by unfold firstF; rw [if_neg (by omega)]
  have hl : lastF x a (a + n) n (y + 1) = if a + n < y + 1 then y + 1 - 1 - n else min (y + 1) a - 1 := by unfold lastF; rw [if_neg (by omega)]
  refine ⟨?_, ?_, ?_, h0⟩
  · rw [hf, lnow_out h1 h2]
    by_cases c1 : x < a
    · rw [if_pos c1, if_pos c1]
    · rw [if_neg c1, if_neg c1]
      by_cases c2 : a + n ≤ x
      · rw [if_pos c2]; omega
      · rw [if_neg c2, if_neg (by omega), if_pos (by omega)]; omega
  · rw [hl, lnow_out h1 h2]
    by_cases c1 : y < a
    · rw [if_pos c1, if_neg (by omega)]; omega
    · rw [if_neg c1]
      by_cases c2 : a + n ≤ y
      · rw [if_pos c2, if_pos (by omega)]; omega
      · rw [if_neg c2, if_pos (by omega), if_neg (by omega)]; omega
  · rw [hf, hl]
    unfold rowsF
    split <;> split <;> omega
/-- What becomes of a single one. -/
theorem so_single {x a n : Int} (h1 : 1 ≤ n) (h2 : n ≤ 65536) (ha : 0 ≤ a) (hx : 0 ≤ x) (hx' : x ≤ 65535) :
    (x < a → movE (rowR a (-n)) (refT x 0) = refT x 0) ∧ (a + n ≤ x → movE (rowR a (-n)) (refT x 0) = refT (x - n) 0) ∧ (a ≤ x → x < a + n → movE (rowR a (-n)) (refT x 0) = .mk lostN []) := by
  have e : movE (rowR a (-n)) (refT x 0) = .mk (if mayB (lnow x x a (-n)) 0 then ndR (lnow x x a (-n)) 0 else lostN) [] := by
    rw [movE, movL, movN_5 _ rfl rfl]; rfl
  rw [e]
  refine ⟨fun h => ?_, fun h => ?_, fun h h' => ?_⟩
  · have hv : lnow x x a (-n) = x := by rw [lnow_out h1 h2, if_pos h]
    rw [hv, mayB_iff.2 (show 0 ≤ x ∧ x < 65536 ∧ (0 : Int) ≤ 0 ∧ (0 : Int) < 702 by omega)]; rfl
  · have hv : lnow x x a (-n) = x - n := by rw [lnow_out h1 h2, if_neg (by omega), if_pos h]
    rw [hv, mayB_iff.2 (show 0 ≤ x - n ∧ x - n < 65536 ∧ (0 : Int) ≤ 0 ∧ (0 : Int) < 702 by omega)]; rfl
  · have hv : lnow x x a (-n) = -1 := by rw [lnow_out h1 h2, if_neg (by omega), if_neg (by omega), if_neg (by omega), if_neg (by omega)]
    rw [hv]; rfl
theorem so_double {x y a n : Int} (h1 : 1 ≤ n) (h2 : n ≤ 65536) (ha : 0 ≤ a) (ha' : a ≤ 65535) (hx : 0 ≤ x) (hx' : x ≤ 65535) (hy : 0 ≤ y) (hy' : y ≤ 65535) :
    (((a ≤ x ∧ x < a + n) ∧ (a ≤ y ∧ y < a + n)) → movE (rowR a (-n)) (.mk (ndG x y) []) = .mk lostN []) ∧ (¬ ((a ≤ x ∧ x < a + n) ∧ (a ≤ y ∧ y < a + n)) → movE (rowR a (-n)) (.mk (ndG x y) []) = .mk (ndG (lnow x y a (-n)) (lnow y x a (-n))) []) := by
  have e : movE (rowR a (-n)) (.mk (ndG x y) []) = .mk (if mayB (lnow x y a (-n)) 0 && mayB (lnow y x a (-n)) 0 then ndG (lnow x y a (-n)) (lnow y x a (-n)) else lostN) [] := by
    rw [movE, movL, movN_6 _ rfl]; rfl
  refine ⟨fun h => ?_, fun h => ?_⟩
  · rw [e]
    have : lnow x y a (-n) = -1 := by rw [lnow_out h1 h2, if_neg (by omega), if_neg (by omega), if_neg (by omega), if_neg (by omega)]
    rw [this]; rfl
  · rw [e]
    have m1 : mayB (lnow x y a (-n)) 0 = true := mayB_iff.2 (by rw [lnow_out h1 h2]; split; omega; split; omega; split; omega; split <;> omega)
    have m2 : mayB (lnow y x a (-n)) 0 = true := mayB_iff.2 (by rw [lnow_out h1 h2]; split; omega; split; omega; split; omega; split <;> omega)
    rw [m1, m2]; rfl
theorem may_rng (r s : Int) (h : mayB r 0 = true) (h' : mayB s 0 = true) : mayR (.mk (ndG r s) []) = 0 := by
  have hf : fitB (.mk (ndG r s) []) = true := by
    refine decide_eq_true ⟨?_, ?_, ?_⟩
    · rw [nodesE, nodesL]; omega
    · rw [depthE, depthL]; omega
    · rw [bytesE, bytesL]; rw [if_neg (show ¬ (6 : Int) = 2 by decide)]; omega
  refine mayR_ok hf ?_
  rw [allE, allL]
  show (toldB (ndG r s) 0 && true) = true
  rw [told6 _ _ h h']; rfl
theorem may_one (r c : Int) (h : mayB r c = true) : mayR (refT r c) = 0 := by
  have hf : fitB (refT r c) = true := by
    refine decide_eq_true ⟨?_, ?_, ?_⟩
    · rw [nodesE, nodesL]; omega
    · rw [depthE, depthL]; omega
    · rw [bytesE, bytesL]; rw [if_neg (show ¬ (5 : Int) = 2 by decide)]; omega
  refine mayR_ok hf ?_
  rw [allE, allL]
  show (toldB (ndR r c) 0 && true) = true
  rw [told5 _ h]; rfl
theorem leaf_any2 {w : World} {n : Nd} {a : Option Addr} {len cap : Nat} (h : Tree w (exV n (.slice a len cap)) (.mk n [])) (w' : World) : Tree w' (exV n (.slice a len cap)) (.mk n []) := by
  unfold Tree In at h ⊢
  obtain ⟨a', len', cap', hv, hl, h1, h2, _⟩ := h
  exact ⟨a', len', cap', hv, hl, h1, h2, .inl hl⟩
theorem so_meas {A k : Int} (h : k ≤ A) : (A + 1 - intOf (.int .i64 (k + 1))).toNat < (A + 1 - intOf (.int .i64 k)).toNat := by
  show (A + 1 - (k + 1)).toNat < (A + 1 - k).toNat
  omega
theorem so_end {p q : Prop} (h : p) (h' : q) : p ∧ q := ⟨h, h'⟩
end Go.Proofs.Ytmgmlpbecodnfaa
