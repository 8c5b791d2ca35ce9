/- What SUMIF and SUMPRODUCT answer of two columns: mathematics. -/
import Derived.Test.YtnpdkojhlgchlaaGreatDoorSif15
import Derived.Test.YtnpdkojhlgchlaaGreatDoorFndM15
namespace Go.Proofs.YtnpdkojhlgchlaaGreatDoor
open Go.RowKit Go.Sort
open T9 (Blk Chg)
set_option linter.unusedVariables false
set_option linter.unusedSimpArgs false

/-- What SUMIF is given, what it wants, what it ends with, from a place on. -/
def ifs (x wr : Int) : List (Int × Int) → Nat → Int → List Va × List (Int × Int) × Va
  | [], _, sum => ([], [], ⟨1, sum, no⟩)
  | p :: r, i, sum =>
    if p.1 = x then
      if (i : Int) = wr then ([nmV p.1, ⟨4, 5, no⟩], [((i : Int), (0 : Int)), ((i : Int), (1 : Int))], ⟨4, 5, no⟩)
      else (nmV p.1 :: nmV p.2 :: (ifs x wr r (i + 1) (sum + p.2)).1, ((i : Int), (0 : Int)) :: ((i : Int), (1 : Int)) :: (ifs x wr r (i + 1) (sum + p.2)).2.1, (ifs x wr r (i + 1) (sum + p.2)).2.2)
    else (nmV p.1 :: (ifs x wr r (i + 1) sum).1, ((i : Int), (0 : Int)) :: (ifs x wr r (i + 1) sum).2.1, (ifs x wr r (i + 1) sum).2.2)
theorem likB_at (i : Nat) (h : i ≤ 1000) : likB 0 0 0 1 (i : Int) 0 = ((i : Int), 1) := by
  unfold likB
  rw [show wrap64 ((i : Int) - 0) = i by unfold wrap64; omega, show wrap64 ((i : Int) + 0) = i by unfold wrap64; omega, show wrap64 (0 - 0) = 0 by unfold wrap64; omega, show wrap64 (0 + 1) = 1 by unfold wrap64; omega]
abbrev lastN (n : Int) : Va := ⟨1, n, no⟩
abbrev gI (x : Int) := gB (σ := Int) (sif3 x) (celN sumT) (likB 0 0 0 1) lastN
theorem gI_no (x : Int) (m k : Nat) (h1 : 1 ≤ m) (r c : Int) (s : Int) (n : Int) (h : n ≠ x) : gI x [agC (m : Nat)] k r c false s (nmV n) = if k < m then .wait [agC (m : Nat)] (k + 1) (k : Int) 0 false s else .over (lastN s) := by
  show givC dG lastN (likB 0 0 0 1) [agC (m : Nat)] k r c (sif3 x s (nmV n)) = _
  have : ((nmV n).i == x) = false := by simp [h]
  unfold sif3
  rw [this]
  exact goOn_colG _ _ _ h1 _ _
theorem gI_yes (x : Int) (m k i : Nat) (hi : i ≤ 1000) (s : Int) : gI x [agC (m : Nat)] k (i : Int) 0 false s (nmV x) = .wait [agC (m : Nat)] k (i : Int) 1 true s := by
  show givC dG lastN (likB 0 0 0 1) [agC (m : Nat)] k (i : Int) 0 (sif3 x s (nmV x)) = _
  have : ((nmV x).i == x) = true := by simp
  unfold sif3
  rw [this]
  show Fs.wait [agC (m : Nat)] k (likB 0 0 0 1 (i : Int) 0).1 (likB 0 0 0 1 (i : Int) 0).2 true s = _
  rw [likB_at i hi]
theorem gI_add (x : Int) (m k : Nat) (h1 : 1 ≤ m) (r c : Int) (s y : Int) (h : -9223372036854775808 ≤ s + y ∧ s + y ≤ 9223372036854775807) : gI x [agC (m : Nat)] k r c true s (nmV y) = if k < m then .wait [agC (m : Nat)] (k + 1) (k : Int) 0 false (s + y) else .over (lastN (s + y)) := by
  show giv dG lastN [agC (m : Nat)] k (celN sumT s (nmV y)) = _
  have : celN sumT s (nmV y) = (.on, s + y) := by
    unfold celN sumT
    rw [if_pos rfl, if_pos h]
  rw [this]
  exact goOn_colG _ _ _ h1 _ _
theorem gI_err (x : Int) (m k : Nat) (r c : Int) (s : Int) : gI x [agC (m : Nat)] k r c true s ⟨4, 5, no⟩ = .over ⟨4, 5, no⟩ := rfl
theorem rn_ifs (x wr : Int) (m : Nat) (h1 : 1 ≤ m) (h3 : m ≤ 300) : ∀ (ys : List (Int × Int)) (i p f : Nat) (sum : Int) (pre vs : List Va), ys ≠ [] → ys.length + i = m → pre.length = p → vs = pre ++ (ifs x wr ys i sum).1 → 2 * ys.length + 1 ≤ f → (∀ q ∈ ys, -1000 < q.2 ∧ q.2 < 1000) → -(1000 * (i : Int)) ≤ sum → sum ≤ 1000 * (i : Int) →
    rnX (gI x) vs f p (.wait [agC (m : Nat)] (i + 1) (i : Int) 0 false sum) = some ((ifs x wr ys i sum).2.2, (ifs x wr ys i sum).2.1) ∧ fits (qB m isI) (gI x) vs f p (.wait [agC (m : Nat)] (i + 1) (i : Int) 0 false sum)
  | [], i, p, f, sum, pre, vs, hne, _, _, _, _, _, _, _ => absurd rfl hne
  | q :: r, i, p, f, sum, pre, vs, hne, hl, hp, hv, hf, hb, hs1, hs2 => by
    simp only [List.length_cons] at hl hf
    obtain ⟨f', rfl⟩ : ∃ f', f = f' + 2 := ⟨f - 2, by omega⟩
    have hq := hb q (List.mem_cons_self ..)
    have hb' : ∀ a ∈ r, -1000 < a.2 ∧ a.2 < 1000 := fun a ha => hb a (List.mem_cons_of_mem _ ha)
    have hv0 : (vs[p]?).getD ⟨1, 0, no⟩ = nmV q.1 := by
      rw [hv, ifs, List.getElem?_append_right (by omega), show p - pre.length = 0 by omega]
      split
      · split <;> rfl
      · rfl
    rw [ifs] at hv ⊢
    rw [rnX, fits, hv0]
    by_cases hx : q.1 = x
    · rw [if_pos hx] at hv ⊢
      rw [hx] at hv hv0 ⊢
      rw [gI_yes x m (i + 1) i (by omega) sum, rnX, fits]
      by_cases hw : (i : Int) = wr
      · rw [if_pos hw] at hv ⊢
        have hv1 : (vs[p + 1]?).getD ⟨1, 0, no⟩ = ⟨4, 5, no⟩ := by rw [hv, List.getElem?_append_right (by omega), show p + 1 - pre.length = 1 by omega]; rfl
        obtain ⟨f, rfl⟩ : ∃ f, f' = f + 1 := ⟨f' - 1, by omega⟩
        rw [hv1, gI_err, rnX, fits]
        exact ⟨rfl, ⟨rfl, fun _ => rfl⟩, ⟨rfl, fun h => by cases h⟩, trivial⟩
      · rw [if_neg hw] at hv ⊢
        have hv1 : (vs[p + 1]?).getD ⟨1, 0, no⟩ = nmV q.2 := by rw [hv, List.getElem?_append_right (by omega), show p + 1 - pre.length = 1 by omega]; rfl
        rw [hv1, gI_add x m (i + 1) h1 _ _ sum q.2 (by omega)]
        by_cases hr : r = []
        · subst hr
          obtain ⟨f, rfl⟩ : ∃ f, f' = f + 1 := ⟨f' - 1, by omega⟩
          simp only [List.length_nil] at hl
          rw [if_neg (by omega), rnX, fits, ifs]
          exact ⟨rfl, ⟨rfl, fun _ => rfl⟩, ⟨rfl, fun h => by cases h⟩, trivial⟩
        · have hrl : 0 < r.length := List.length_pos_iff.2 hr
          rw [if_pos (by omega)]
          have hI := rn_ifs x wr m h1 h3 r (i + 1) (p + 2) f' (sum + q.2) (pre ++ [nmV x, nmV q.2]) vs hr (by omega) (by simp; omega) (by rw [hv]; simp) (by omega) hb' (by omega) (by omega)
          rw [show ((i + 1 : Nat) : Int) = (i : Int) + 1 by omega] at hI
          rw [show ((i + 1 : Nat) : Int) = (i : Int) + 1 by omega]
          rw [hI.1]
          exact ⟨rfl, ⟨rfl, fun _ => rfl⟩, ⟨rfl, fun h => by cases h⟩, hI.2⟩
    · rw [if_neg hx] at hv ⊢
      rw [gI_no x m (i + 1) h1 _ _ sum q.1 hx]
      by_cases hr : r = []
      · subst hr
        simp only [List.length_nil] at hl
        rw [if_neg (by omega), rnX, fits, ifs]
        exact ⟨rfl, ⟨rfl, fun _ => rfl⟩, trivial⟩
      · have hrl : 0 < r.length := List.length_pos_iff.2 hr
        rw [if_pos (by omega)]
        have hI := rn_ifs x wr m h1 h3 r (i + 1) (p + 1) (f' + 1) sum (pre ++ [nmV q.1]) vs hr (by omega) (by simp; omega) (by rw [hv]; simp) (by omega) hb' (by omega) (by omega)
        rw [show ((i + 1 : Nat) : Int) = (i : Int) + 1 by omega] at hI
        rw [show ((i + 1 : Nat) : Int) = (i : Int) + 1 by omega]
        rw [hI.1]
        exact ⟨rfl, ⟨rfl, fun _ => rfl⟩, hI.2⟩
theorem ifs_ok (x wr : Int) (hx1 : -9223372036854775808 ≤ x) (hx2 : x ≤ 9223372036854775807) : ∀ (ys : List (Int × Int)) (i : Nat) (sum : Int), (∀ q ∈ ys, (-9223372036854775808 ≤ q.1 ∧ q.1 ≤ 9223372036854775807) ∧ -1000 < q.2 ∧ q.2 < 1000) → ∀ v ∈ (ifs x wr ys i sum).1, VaOk v
  | [], i, sum, hb, v, hv => by rw [ifs] at hv; cases hv
  | q :: r, i, sum, hb, v, hv => by
    have hq := hb q (List.mem_cons_self ..)
    have hb' : ∀ a ∈ r, (-9223372036854775808 ≤ a.1 ∧ a.1 ≤ 9223372036854775807) ∧ -1000 < a.2 ∧ a.2 < 1000 := fun a ha => hb a (List.mem_cons_of_mem _ ha)
    have h0 := va_int q.1 hq.1.1 hq.1.2
    have h2 := va_int q.2 (by omega) (by omega)
    have h4 : VaOk ⟨4, 5, no⟩ := ⟨.inr (.inr (.inr (.inr ⟨rfl, ⟨by decide, by decide⟩, rfl⟩))), by decide, by decide⟩
    rw [ifs] at hv
    split at hv
    · split at hv
      · rcases List.mem_cons.1 hv with rfl | hv
        · exact h0
        · rcases List.mem_cons.1 hv with rfl | hv
          · exact h4
          · cases hv
      · rcases List.mem_cons.1 hv with rfl | hv
        · exact h0
        · rcases List.mem_cons.1 hv with rfl | hv
          · exact h2
          · exact ifs_ok x wr hx1 hx2 r (i + 1) _ hb' v hv
    · rcases List.mem_cons.1 hv with rfl | hv
      · exact h0
      · exact ifs_ok x wr hx1 hx2 r (i + 1) _ hb' v hv
theorem ifs_len (x wr : Int) : ∀ (ys : List (Int × Int)) (i : Nat) (sum : Int), (ifs x wr ys i sum).1.length ≤ 2 * ys.length ∧ (ifs x wr ys i sum).1.length = (ifs x wr ys i sum).2.1.length
  | [], i, sum => by rw [ifs]; simp
  | q :: r, i, sum => by
    rw [ifs]
    split
    · split
      · simp; omega
      · have := ifs_len x wr r (i + 1) (sum + q.2); simp; omega
    · have := ifs_len x wr r (i + 1) sum; simp; omega
/-- Pairs, as values that are given; the places that are wanted; their sum of products. -/
def prV : List (Int × Int) → List Va
  | [] => []
  | p :: r => nmV p.1 :: nmV p.2 :: prV r
def prW : Nat → Nat → List (Int × Int)
  | 0, _ => []
  | n + 1, i => ((i : Int), (0 : Int)) :: ((i : Int), (1 : Int)) :: prW n (i + 1)
def prD : List (Int × Int) → Int → Int
  | [], d => d
  | p :: r, d => prD r (d + p.1 * p.2)
theorem prV_len : ∀ ys, (prV ys).length = 2 * ys.length
  | [] => rfl
  | p :: r => by simp only [prV, List.length_cons, prV_len r]; omega
theorem prV_app : ∀ a b, prV (a ++ b) = prV a ++ prV b
  | [], b => rfl
  | p :: r, b => by simp only [List.cons_append, prV, prV_app r b]
theorem prD_app : ∀ a b d, prD (a ++ b) d = prD b (prD a d)
  | [], b, d => rfl
  | p :: r, b, d => by simp only [List.cons_append, prD, prD_app r b]
theorem prW_len : ∀ n i, (prW n i).length = 2 * n
  | 0, i => rfl
  | n + 1, i => by simp only [prW, List.length_cons, prW_len n]; omega
theorem prW_at : ∀ n i j, j < n → (prW n i)[2 * j]? = some (((i + j : Nat) : Int), 0) ∧ (prW n i)[2 * j + 1]? = some (((i + j : Nat) : Int), 1)
  | 0, i, j, h => by omega
  | n + 1, i, 0, h => ⟨rfl, rfl⟩
  | n + 1, i, j + 1, h => by
    have := prW_at n (i + 1) j (by omega)
    rw [show i + 1 + j = i + (j + 1) by omega] at this
    rw [show 2 * (j + 1) = 2 * j + 1 + 1 by omega, show 2 * j + 1 + 1 + 1 = 2 * j + 1 + 1 + 1 from rfl]
    simp only [prW, List.getElem?_cons_succ]
    exact this
abbrev lastQ (s : Int × Va) : Va := ⟨1, s.1, no⟩
abbrev gP := gB (σ := Int × Va) sprC (celN sprT) (likB 0 0 0 1) lastQ
theorem gP_one (m k i : Nat) (hi : i ≤ 1000) (s : Int × Va) (n : Int) : gP [agC (m : Nat)] k (i : Int) 0 false s (nmV n) = .wait [agC (m : Nat)] k (i : Int) 1 true (s.1, nmV n) := by
  show givC dG lastQ (likB 0 0 0 1) [agC (m : Nat)] k (i : Int) 0 (sprC s (nmV n)) = _
  unfold sprC
  rw [if_neg (show ¬ (1 : Int) = 4 by decide)]
  show Fs.wait [agC (m : Nat)] k (likB 0 0 0 1 (i : Int) 0).1 (likB 0 0 0 1 (i : Int) 0).2 true _ = _
  rw [likB_at i hi]
theorem gP_two (m k : Nat) (h1 : 1 ≤ m) (r c d n y : Int) (hz : -9223372036854775808 ≤ n * y ∧ n * y ≤ 9223372036854775807) (h : -9223372036854775808 ≤ d + n * y ∧ d + n * y ≤ 9223372036854775807) : gP [agC (m : Nat)] k r c true (d, nmV n) (nmV y) = if k < m then .wait [agC (m : Nat)] (k + 1) (k : Int) 0 false (d + n * y, nmV n) else .over (lastQ (d + n * y, nmV n)) := by
  show giv dG lastQ [agC (m : Nat)] k (celN sprT (d, nmV n) (nmV y)) = _
  have : celN sprT (d, nmV n) (nmV y) = (.on, (d + n * y, nmV n)) := by
    unfold celN sprT
    rw [if_pos rfl, if_pos rfl, if_pos hz]
    unfold sumT
    rw [if_pos h]
  rw [this]
  exact goOn_colG _ _ _ h1 _ _
theorem mul_small (a b : Int) (ha : -1000 < a ∧ a < 1000) (hb : -1000 < b ∧ b < 1000) : -1000000 < a * b ∧ a * b < 1000000 := by
  have h1 : a.natAbs ≤ 999 := by omega
  have h2 : b.natAbs ≤ 999 := by omega
  have h3 : (a * b).natAbs ≤ 999 * 999 := by rw [Int.natAbs_mul]; exact Nat.mul_le_mul h1 h2
  omega
theorem rn_prs (m : Nat) (h1 : 1 ≤ m) (h3 : m ≤ 300) : ∀ (ys : List (Int × Int)) (i p f : Nat) (d : Int) (lv : Va) (pre vs : List Va), ys ≠ [] → ys.length + i = m → pre.length = p → vs = pre ++ prV ys → 2 * ys.length + 1 ≤ f → (∀ q ∈ ys, (-1000 < q.1 ∧ q.1 < 1000) ∧ -1000 < q.2 ∧ q.2 < 1000) → -(1000000 * (i : Int)) ≤ d → d ≤ 1000000 * (i : Int) →
    rnX gP vs f p (.wait [agC (m : Nat)] (i + 1) (i : Int) 0 false (d, lv)) = some (⟨1, prD ys d, no⟩, prW ys.length i) ∧ fits (qB m (fun _ => True)) gP vs f p (.wait [agC (m : Nat)] (i + 1) (i : Int) 0 false (d, lv))
  | [], i, p, f, d, lv, pre, vs, hne, _, _, _, _, _, _, _ => absurd rfl hne
  | q :: r, i, p, f, d, lv, pre, vs, hne, hl, hp, hv, hf, hb, hs1, hs2 => by
    simp only [List.length_cons] at hl hf
    obtain ⟨f', rfl⟩ : ∃ f', f = f' + 2 := ⟨f - 2, by omega⟩
    have hq := hb q (List.mem_cons_self ..)
    have hb' : ∀ a ∈ r, (-1000 < a.1 ∧ a.1 < 1000) ∧ -1000 < a.2 ∧ a.2 < 1000 := fun a ha => hb a (List.mem_cons_of_mem _ ha)
    have hz := mul_small q.1 q.2 hq.1 hq.2
    rw [prV] at hv
    have hv0 : (vs[p]?).getD ⟨1, 0, no⟩ = nmV q.1 := by rw [hv, List.getElem?_append_right (by omega), show p - pre.length = 0 by omega]; rfl
    have hv1 : (vs[p + 1]?).getD ⟨1, 0, no⟩ = nmV q.2 := by rw [hv, List.getElem?_append_right (by omega), show p + 1 - pre.length = 1 by omega]; rfl
    rw [rnX, fits, hv0, gP_one m (i + 1) i (by omega), rnX, fits, hv1, gP_two m (i + 1) h1 _ _ d q.1 q.2 (by generalize q.1 * q.2 = z at *; omega) (by generalize q.1 * q.2 = z at *; omega)]
    rw [prD, show (q :: r).length = r.length + 1 from rfl, prW]
    by_cases hr : r = []
    · subst hr
      obtain ⟨f, rfl⟩ : ∃ f, f' = f + 1 := ⟨f' - 1, by omega⟩
      simp only [List.length_nil] at hl
      rw [if_neg (by omega), rnX, fits]
      exact ⟨rfl, ⟨rfl, fun _ => trivial⟩, ⟨rfl, fun h => by cases h⟩, trivial⟩
    · have hrl : 0 < r.length := List.length_pos_iff.2 hr
      rw [if_pos (by omega)]
      have hI := rn_prs m h1 h3 r (i + 1) (p + 2) f' (d + q.1 * q.2) (nmV q.1) (pre ++ [nmV q.1, nmV q.2]) vs hr (by omega) (by simp; omega) (by rw [hv]; simp) (by omega) hb' (by generalize q.1 * q.2 = z at *; omega) (by generalize q.1 * q.2 = z at *; omega)
      rw [show ((i + 1 : Nat) : Int) = (i : Int) + 1 by omega] at hI
      rw [show ((i + 1 : Nat) : Int) = (i : Int) + 1 by omega]
      rw [hI.1]
      exact ⟨rfl, ⟨rfl, fun _ => trivial⟩, ⟨rfl, fun h => by cases h⟩, hI.2⟩
theorem prV_ok : ∀ (ys : List (Int × Int)), (∀ q ∈ ys, (-1000 < q.1 ∧ q.1 < 1000) ∧ -1000 < q.2 ∧ q.2 < 1000) → ∀ v ∈ prV ys, VaOk v
  | [], hb, v, hv => by rw [prV] at hv; cases hv
  | q :: r, hb, v, hv => by
    have hq := hb q (List.mem_cons_self ..)
    rw [prV] at hv
    rcases List.mem_cons.1 hv with rfl | hv
    · exact va_int q.1 (by omega) (by omega)
    · rcases List.mem_cons.1 hv with rfl | hv
      · exact va_int q.2 (by omega) (by omega)
      · exact prV_ok r (fun a ha => hb a (List.mem_cons_of_mem _ ha)) v hv
/-- The column's own numbers that are equal. -/
theorem sif2_col (x : Int) (hx : -1000 < x ∧ x < 1000) : ∀ (ns : List Int) (n0 : Int) (b : Nat), -(1000 * (b : Int)) ≤ n0 → n0 ≤ 1000 * (b : Int) → b + ns.length ≤ 1000000 → colR (sif2 x (celN sumT)) lastN (ns.map nmV) n0 = (⟨1, n0 + (cI x ns : Nat) * x, no⟩, ns.length)
  | [], n0, b, h1, h2, h3 => by simp [colR, cI]
  | y :: r, n0, b, h1, h2, h3 => by
    simp only [List.length_cons] at h3
    rw [List.map_cons, colR]
    by_cases hy : y = x
    · have hs : sif2 x (celN sumT) n0 (nmV y) = (.on, n0 + x) := by
        unfold sif2
        have : ((nmV y).i == x) = true := by simp [hy]
        rw [this, if_pos rfl, hy]
        unfold celN sumT
        rw [if_pos rfl, if_pos (by show -9223372036854775808 ≤ n0 + x ∧ n0 + x ≤ 9223372036854775807; omega)]
      rw [hs]
      simp only
      rw [sif2_col x hx r (n0 + x) (b + 1) (by omega) (by omega) (by omega)]
      simp only [cI, hy, if_true, List.length_cons]
      congr 2
      rw [show ((1 + cI x r : Nat) : Int) = (cI x r : Nat) + 1 by omega, Int.add_mul]
      omega
    · have hs : sif2 x (celN sumT) n0 (nmV y) = (.on, n0) := by
        unfold sif2
        have : ((nmV y).i == x) = false := by simp [hy]
        rw [this]
        rfl
      rw [hs]
      simp only
      rw [sif2_col x hx r n0 (b + 1) (by omega) (by omega) (by omega)]
      simp [cI, hy]
end Go.Proofs.YtnpdkojhlgchlaaGreatDoor
