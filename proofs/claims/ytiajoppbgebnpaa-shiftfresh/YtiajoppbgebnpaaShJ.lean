/- Which nodes there may be, written out. References that move: what becomes of a tree; no Go in sight. -/
import Derived.Test.YtiajoppbgebnpaaPartsN9
namespace Go.Proofs.Ytiajoppbgebnpaa
open Go.RowKit
set_option linter.unusedVariables false

abbrev rf0 : Rf := ⟨0, 0, false, false⟩
theorem ndB_eq {a b : Nd} (h : ndB a b = true) : a = b := by
  obtain ⟨k, o, n, t, ⟨r1, r2, r3, r4⟩, ⟨s1, s2, s3, s4⟩, f⟩ := a
  obtain ⟨k', o', n', t', ⟨r1', r2', r3', r4'⟩, ⟨s1', s2', s3', s4'⟩, f'⟩ := b
  simp only [ndB, rfB, Bool.and_eq_true, decide_eq_true_eq] at h
  simp only [Nd.mk.injEq, Rf.mk.injEq]
  simp_all
abbrev nd00 : Nd := ⟨0, 0, 0, no, ⟨0, 0, false, false⟩, ⟨0, 0, false, false⟩, 0⟩
theorem told_rest {nd : Nd} {len : Nat} (h : toldB nd len = true) : okOf nd len = true ∧ leftOf nd len = 0 ∧ restOf nd = nd00 := by
  unfold toldB at h
  rw [Bool.and_eq_true, Bool.and_eq_true] at h
  exact ⟨h.1.1, of_decide_eq_true h.1.2, ndB_eq h.2⟩
theorem shape7 {nd : Nd} {len : Nat} (h : toldB nd len = true) (hk : nd.kind = 7) : nd = ⟨7, nd.op, 0, no, rf0, rf0, 0⟩ ∧ 1 ≤ nd.op ∧ nd.op ≤ 3 ∧ len = 1 := by
  obtain ⟨kind, op, num, text, ref, tt0, fn⟩ := nd
  simp only at hk; subst hk
  obtain ⟨h1, h2, h3⟩ := told_rest h
  have h3 : (⟨0, 0, num, text, ref, tt0, fn⟩ : Nd) = nd00 := h3
  injection h3 with _ _ e1 e2 e3 e4 e5
  subst e1 e2 e3 e4 e5
  have := of_decide_eq_true (show decide (1 ≤ op ∧ op ≤ 3 ∧ len = 1) = true from h1)
  exact ⟨rfl, this⟩
theorem shape8 {nd : Nd} {len : Nat} (h : toldB nd len = true) (hk : nd.kind = 8) : nd = ⟨8, nd.op, 0, no, rf0, rf0, 0⟩ ∧ 1 ≤ nd.op ∧ nd.op ≤ 12 ∧ len = 2 := by
  obtain ⟨kind, op, num, text, ref, tt0, fn⟩ := nd
  simp only at hk; subst hk
  obtain ⟨h1, h2, h3⟩ := told_rest h
  have h3 : (⟨0, 0, num, text, ref, tt0, fn⟩ : Nd) = nd00 := h3
  injection h3 with _ _ e1 e2 e3 e4 e5
  subst e1 e2 e3 e4 e5
  have := of_decide_eq_true (show decide (1 ≤ op ∧ op ≤ 12 ∧ len = 2) = true from h1)
  exact ⟨rfl, this⟩
theorem shape9 {nd : Nd} {len : Nat} (h : toldB nd len = true) (hk : nd.kind = 9) : nd = ⟨9, 0, 0, no, rf0, rf0, nd.fn⟩ ∧ takesB nd.fn len = true := by
  obtain ⟨kind, op, num, text, ref, tt0, fn⟩ := nd
  simp only at hk; subst hk
  obtain ⟨h1, h2, h3⟩ := told_rest h
  have h3 : (⟨0, op, num, text, ref, tt0, 0⟩ : Nd) = nd00 := h3
  injection h3 with _ e0 e1 e2 e3 e4 _
  subst e0 e1 e2 e3 e4
  exact ⟨rfl, h1⟩
theorem shape1 {nd : Nd} {len : Nat} (h : toldB nd len = true) (hk : nd.kind = 1) : nd = ⟨1, 0, nd.num, no, rf0, rf0, 0⟩ ∧ 0 ≤ nd.num ∧ len = 0 := by
  obtain ⟨kind, op, num, text, ref, tt0, fn⟩ := nd
  simp only at hk; subst hk
  obtain ⟨h1, h2, h3⟩ := told_rest h
  have h3 : (⟨0, op, 0, text, ref, tt0, fn⟩ : Nd) = nd00 := h3
  injection h3 with _ e0 _ e2 e3 e4 e5
  subst e0 e2 e3 e4 e5
  exact ⟨rfl, of_decide_eq_true h1, h2⟩
theorem shape2 {nd : Nd} {len : Nat} (h : toldB nd len = true) (hk : nd.kind = 2) : nd = ⟨2, 0, 0, nd.text, rf0, rf0, 0⟩ ∧ len = 0 := by
  obtain ⟨kind, op, num, text, ref, tt0, fn⟩ := nd
  simp only at hk; subst hk
  obtain ⟨h1, h2, h3⟩ := told_rest h
  have h3 : (⟨0, op, num, no, ref, tt0, fn⟩ : Nd) = nd00 := h3
  injection h3 with _ e0 e1 _ e3 e4 e5
  subst e0 e1 e3 e4 e5
  exact ⟨rfl, h2⟩
theorem shape3 {nd : Nd} {len : Nat} (h : toldB nd len = true) (hk : nd.kind = 3) : nd = ⟨3, 0, nd.num, no, rf0, rf0, 0⟩ ∧ (nd.num = 0 ∨ nd.num = 1) ∧ len = 0 := by
  obtain ⟨kind, op, num, text, ref, tt0, fn⟩ := nd
  simp only at hk; subst hk
  obtain ⟨h1, h2, h3⟩ := told_rest h
  have h3 : (⟨0, op, 0, text, ref, tt0, fn⟩ : Nd) = nd00 := h3
  injection h3 with _ e0 _ e2 e3 e4 e5
  subst e0 e2 e3 e4 e5
  exact ⟨rfl, of_decide_eq_true h1, h2⟩
theorem shape4 {nd : Nd} {len : Nat} (h : toldB nd len = true) (hk : nd.kind = 4) : nd = ⟨4, 0, nd.num, no, rf0, rf0, 0⟩ ∧ (1 ≤ nd.num ∧ nd.num ≤ 6) ∧ len = 0 := by
  obtain ⟨kind, op, num, text, ref, tt0, fn⟩ := nd
  simp only at hk; subst hk
  obtain ⟨h1, h2, h3⟩ := told_rest h
  have h3 : (⟨0, op, 0, text, ref, tt0, fn⟩ : Nd) = nd00 := h3
  injection h3 with _ e0 _ e2 e3 e4 e5
  subst e0 e2 e3 e4 e5
  exact ⟨rfl, of_decide_eq_true h1, h2⟩
theorem shape5 {nd : Nd} {len : Nat} (h : toldB nd len = true) (hk : nd.kind = 5) : nd = ⟨5, 0, 0, no, nd.ref, rf0, 0⟩ ∧ mayB nd.ref.row nd.ref.col = true ∧ len = 0 := by
  obtain ⟨kind, op, num, text, ref, tt0, fn⟩ := nd
  simp only at hk; subst hk
  obtain ⟨h1, h2, h3⟩ := told_rest h
  have h3 : (⟨0, op, num, text, ⟨0, 0, false, false⟩, tt0, fn⟩ : Nd) = nd00 := h3
  injection h3 with _ e0 e1 e2 _ e4 e5
  subst e0 e1 e2 e4 e5
  exact ⟨rfl, h1, h2⟩
theorem shape6 {nd : Nd} {len : Nat} (h : toldB nd len = true) (hk : nd.kind = 6) : nd = ⟨6, 0, 0, no, nd.ref, nd.to, 0⟩ ∧ mayB nd.ref.row nd.ref.col = true ∧ mayB nd.to.row nd.to.col = true ∧ len = 0 := by
  obtain ⟨kind, op, num, text, ref, tt0, fn⟩ := nd
  simp only at hk; subst hk
  obtain ⟨h1, h2, h3⟩ := told_rest h
  have h3 : (⟨0, op, num, text, ⟨0, 0, false, false⟩, ⟨0, 0, false, false⟩, fn⟩ : Nd) = nd00 := h3
  injection h3 with _ e0 e1 e2 _ _ e5
  subst e0 e1 e2 e5
  have h1 : (mayB ref.row ref.col && mayB tt0.row tt0.col) = true := h1
  rw [Bool.and_eq_true] at h1
  exact ⟨rfl, h1.1, h1.2, h2⟩
theorem told_kind {nd : Nd} {len : Nat} (h : toldB nd len = true) : nd.kind = 1 ∨ nd.kind = 2 ∨ nd.kind = 3 ∨ nd.kind = 4 ∨ nd.kind = 5 ∨ nd.kind = 6 ∨ nd.kind = 7 ∨ nd.kind = 8 ∨ nd.kind = 9 := by
  have h1 := (told_rest h).1
  unfold okOf at h1
  by_cases k1 : nd.kind = 1
  · exact .inl k1
  by_cases k2 : nd.kind = 2
  · exact .inr (.inl k2)
  by_cases k3 : nd.kind = 3
  · exact .inr (.inr (.inl k3))
  by_cases k4 : nd.kind = 4
  · exact .inr (.inr (.inr (.inl k4)))
  by_cases k5 : nd.kind = 5
  · exact .inr (.inr (.inr (.inr (.inl k5))))
  by_cases k6 : nd.kind = 6
  · exact .inr (.inr (.inr (.inr (.inr (.inl k6)))))
  by_cases k7 : nd.kind = 7
  · exact .inr (.inr (.inr (.inr (.inr (.inr (.inl k7))))))
  by_cases k8 : nd.kind = 8
  · exact .inr (.inr (.inr (.inr (.inr (.inr (.inr (.inl k8)))))))
  by_cases k9 : nd.kind = 9
  · exact .inr (.inr (.inr (.inr (.inr (.inr (.inr (.inr k9)))))))
  rw [if_neg k1, if_neg k2, if_neg k3, if_neg k4, if_neg k5, if_neg k6, if_neg k7, if_neg k8, if_neg k9] at h1
  cases h1
end Go.Proofs.Ytiajoppbgebnpaa
namespace Go.Proofs.Ytiajoppbgebnpaa
open Go.RowKit
set_option linter.unusedVariables false

abbrev Mv := Rf → Rf → Rf
abbrev lostN : Nd := ⟨4, 0, 3, no, rf0, rf0, 0⟩
def putN (f : Mv) (n : Nd) : Nd := if n.kind = 5 then { n with ref := f n.ref n.ref } else if n.kind = 6 then { n with ref := f n.ref n.to, to := f n.to n.ref } else n
def gridB (n : Nd) : Bool := mayB n.ref.row n.ref.col && mayB n.to.row n.to.col
def movN (f : Mv) (n : Nd) : Nd := if gridB (putN f n) then putN f n else lostN
mutual
def movE (f : Mv) : Ex → Ex | .mk nd ks => .mk (movN f nd) (movL f ks)
def movL (f : Mv) : List Ex → List Ex | [] => [] | k :: r => movE f k :: movL f r
end
theorem movL_map (f : Mv) : ∀ ks : List Ex, movL f ks = ks.map (movE f)
  | [] => by rw [movL]; rfl
  | k :: r => by rw [movL, movL_map f r]; rfl
theorem movL_len (f : Mv) (ks : List Ex) : (movL f ks).length = ks.length := by rw [movL_map]; simp
def stp (line d : Int) : Int := line + max (-65536) (min d 65536)
def pasR (dr dc : Int) : Mv := fun r _ => ⟨if r.pr then r.row else stp r.row dr, if r.pc then r.col else stp r.col dc, r.pr, r.pc⟩
def lnow (line partner a n : Int) : Int :=
  if line < a then line else if 0 ≤ n then stp line n else if a - max n (-65536) ≤ line then stp line n else if partner < a then a - 1 else if a - max n (-65536) ≤ partner then a else -1
def rowR (a n : Int) : Mv := fun r p => ⟨lnow r.row p.row a n, r.col, r.pr, r.pc⟩
def colR (a n : Int) : Mv := fun r p => ⟨r.row, lnow r.col p.col a n, r.pr, r.pc⟩
theorem mayB_iff {r c : Int} : mayB r c = true ↔ 0 ≤ r ∧ r < 65536 ∧ 0 ≤ c ∧ c < 702 := by unfold mayB; exact decide_eq_true_iff
theorem may00 : mayB 0 0 = true := rfl
theorem movN_5 (f : Mv) {n : Nd} (h : n.kind = 5) (h0 : n.to = rf0) : movN f n = if mayB (f n.ref n.ref).row (f n.ref n.ref).col then { n with ref := f n.ref n.ref } else lostN := by
  unfold movN putN gridB
  rw [if_pos h]
  simp only [h0, may00, Bool.and_true]
theorem movN_6 (f : Mv) {n : Nd} (h : n.kind = 6) : movN f n = if mayB (f n.ref n.to).row (f n.ref n.to).col && mayB (f n.to n.ref).row (f n.to n.ref).col then { n with ref := f n.ref n.to, to := f n.to n.ref } else lostN := by
  have e : putN f n = { n with ref := f n.ref n.to, to := f n.to n.ref } := by unfold putN; rw [if_neg (by rw [h]; decide), if_pos h]
  unfold movN gridB
  rw [e]
theorem told_zero {n : Nd} {len : Nat} (h : toldB n len = true) (h5 : n.kind ≠ 5) (h6 : n.kind ≠ 6) : n.ref = rf0 ∧ n.to = rf0 := by
  rcases told_kind h with k | k | k | k | k | k | k | k | k
  · have := (shape1 h k).1; exact ⟨by rw [this], by rw [this]⟩
  · have := (shape2 h k).1; exact ⟨by rw [this], by rw [this]⟩
  · have := (shape3 h k).1; exact ⟨by rw [this], by rw [this]⟩
  · have := (shape4 h k).1; exact ⟨by rw [this], by rw [this]⟩
  · exact absurd k h5
  · exact absurd k h6
  · have := (shape7 h k).1; exact ⟨by rw [this], by rw [this]⟩
  · have := (shape8 h k).1; exact ⟨by rw [this], by rw [this]⟩
  · have := (shape9 h k).1; exact ⟨by rw [this], by rw [this]⟩
theorem movN_other (f : Mv) {n : Nd} {len : Nat} (h : toldB n len = true) (h5 : n.kind ≠ 5) (h6 : n.kind ≠ 6) : movN f n = n := by
  obtain ⟨e1, e2⟩ := told_zero h h5 h6
  unfold movN putN gridB
  rw [if_neg h5, if_neg h6, e1, e2]
  rfl
theorem told_lost : toldB lostN 0 = true := rfl
theorem told5 (r : Rf) (h : mayB r.row r.col = true) : toldB ⟨5, 0, 0, no, r, rf0, 0⟩ 0 = true := by
  show (mayB r.row r.col && true && true) = true
  rw [h]; rfl
theorem told6 (r s : Rf) (h : mayB r.row r.col = true) (h' : mayB s.row s.col = true) : toldB ⟨6, 0, 0, no, r, s, 0⟩ 0 = true := by
  show ((mayB r.row r.col && mayB s.row s.col) && true && true) = true
  rw [h, h']; rfl
theorem movN_told (f : Mv) {n : Nd} {len : Nat} (h : toldB n len = true) : toldB (movN f n) len = true := by
  by_cases h5 : n.kind = 5
  · obtain ⟨e, _, rfl⟩ := shape5 h h5
    rw [movN_5 f h5 (by rw [e])]
    split
    · rename_i hm
      have : ({ n with ref := f n.ref n.ref } : Nd) = ⟨5, 0, 0, no, f n.ref n.ref, rf0, 0⟩ := by rw [e]
      rw [this]; exact told5 _ hm
    · exact told_lost
  · by_cases h6 : n.kind = 6
    · obtain ⟨e, _, _, rfl⟩ := shape6 h h6
      rw [movN_6 f h6]
      split
      · rename_i hm
        rw [Bool.and_eq_true] at hm
        have : ({ n with ref := f n.ref n.to, to := f n.to n.ref } : Nd) = ⟨6, 0, 0, no, f n.ref n.to, f n.to n.ref, 0⟩ := by rw [e]
        rw [this]; exact told6 _ _ hm.1 hm.2
      · exact told_lost
    · rw [movN_other f h h5 h6]; exact h
theorem movN_text (f : Mv) {n : Nd} {len : Nat} (h : toldB n len = true) : (movN f n).text = n.text ∧ ((movN f n).kind = 2 ↔ n.kind = 2) := by
  by_cases h5 : n.kind = 5
  · obtain ⟨e, _, rfl⟩ := shape5 h h5
    rw [movN_5 f h5 (by rw [e])]
    split
    · exact ⟨rfl, Iff.rfl⟩
    · rw [e]; exact ⟨rfl, by show ((4 : Int) = 2 ↔ (5 : Int) = 2); omega⟩
  · by_cases h6 : n.kind = 6
    · obtain ⟨e, _, _, rfl⟩ := shape6 h h6
      rw [movN_6 f h6]
      split
      · exact ⟨rfl, Iff.rfl⟩
      · rw [e]; exact ⟨rfl, by show ((4 : Int) = 2 ↔ (6 : Int) = 2); omega⟩
    · rw [movN_other f h h5 h6]; exact ⟨rfl, Iff.rfl⟩
mutual
theorem mov_nodes (f : Mv) : ∀ t : Ex, nodesE (movE f t) = nodesE t
  | .mk nd ks => by rw [movE, nodesE, nodesE, mov_nodesL f ks]
theorem mov_nodesL (f : Mv) : ∀ ks : List Ex, nodesL (movL f ks) = nodesL ks
  | [] => by rw [movL]
  | k :: r => by rw [movL, nodesL, nodesL, mov_nodes f k, mov_nodesL f r]
end
mutual
theorem mov_depth (f : Mv) : ∀ t : Ex, depthE (movE f t) = depthE t
  | .mk nd ks => by rw [movE, depthE, depthE, mov_depthL f ks]
theorem mov_depthL (f : Mv) : ∀ ks : List Ex, depthL (movL f ks) = depthL ks
  | [] => by rw [movL]
  | k :: r => by rw [movL, depthL, depthL, mov_depth f k, mov_depthL f r]
end
theorem all_mk {nd : Nd} {ks : List Ex} (h : allE (.mk nd ks) = true) : toldB nd ks.length = true ∧ allL ks = true := by
  rw [allE, Bool.and_eq_true] at h; exact h
theorem allL_cons {k : Ex} {r : List Ex} (h : allL (k :: r) = true) : allE k = true ∧ allL r = true := by
  rw [allL, Bool.and_eq_true] at h; exact h
mutual
theorem mov_bytes (f : Mv) : ∀ t : Ex, allE t = true → bytesE (movE f t) = bytesE t
  | .mk nd ks, h => by
    obtain ⟨h1, h2⟩ := all_mk h
    obtain ⟨e1, e2⟩ := movN_text f h1
    rw [movE, bytesE, bytesE, mov_bytesL f ks h2, e1]
    by_cases q : nd.kind = 2
    · rw [if_pos q, if_pos (e2.2 q)]
    · rw [if_neg q, if_neg (fun e => q (e2.1 e))]
theorem mov_bytesL (f : Mv) : ∀ ks : List Ex, allL ks = true → bytesL (movL f ks) = bytesL ks
  | [], h => by rw [movL]
  | k :: r, h => by
    obtain ⟨h1, h2⟩ := allL_cons h
    rw [movL, bytesL, bytesL, mov_bytes f k h1, mov_bytesL f r h2]
end
mutual
theorem mov_all (f : Mv) : ∀ t : Ex, allE t = true → allE (movE f t) = true
  | .mk nd ks, h => by
    obtain ⟨h1, h2⟩ := all_mk h
    rw [movE, allE, movL_len, movN_told f h1, mov_allL f ks h2]; rfl
theorem mov_allL (f : Mv) : ∀ ks : List Ex, allL ks = true → allL (movL f ks) = true
  | [], h => by rw [movL]; exact h
  | k :: r, h => by
    obtain ⟨h1, h2⟩ := allL_cons h
    rw [movL, allL, mov_all f k h1, mov_allL f r h2]; rfl
end
theorem may_parts {t : Ex} (h : mayR t = 0) : fitB t = true ∧ allE t = true := by
  cases q : fitB t
  · rw [mayR_no q] at h; omega
  · cases p : allE t
    · rw [mayR_two q p] at h; omega
    · exact ⟨rfl, rfl⟩
theorem mov_may (f : Mv) {t : Ex} (h : mayR t = 0) : mayR (movE f t) = 0 := by
  obtain ⟨h1, h2⟩ := may_parts h
  refine mayR_ok ?_ (mov_all f t h2)
  have := of_decide_eq_true h1
  exact decide_eq_true ⟨by rw [mov_nodes]; exact this.1, by rw [mov_depth]; exact this.2.1, by rw [mov_bytes f t h2]; exact this.2.2⟩
mutual
theorem mov_sm (f : Mv) : ∀ t : Ex, allE t = true → SmE t → SmE (movE f t)
  | .mk nd ks, h, hs => by
    obtain ⟨h1, h2⟩ := all_mk h
    unfold SmE at hs
    rw [movE]
    unfold SmE
    exact ⟨by rw [(movN_text f h1).1]; exact hs.1, by rw [movL_len]; exact hs.2.1, mov_smL f ks h2 hs.2.2⟩
theorem mov_smL (f : Mv) : ∀ ks : List Ex, allL ks = true → SmL ks → SmL (movL f ks)
  | [], h, hs => by rw [movL]; exact hs
  | k :: r, h, hs => by
    obtain ⟨h1, h2⟩ := allL_cons h
    unfold SmL at hs
    rw [movL]
    unfold SmL
    exact ⟨mov_sm f k h1 hs.1, mov_smL f r h2 hs.2⟩
end
mutual
theorem same_selfE : ∀ t : Ex, sameE t t = true
  | .mk nd ks => by
    rw [sameE]
    show (ndB nd nd && sameL ks ks) = true
    rw [same_selfL ks, Bool.and_true]
    simp [ndB, rfB]
theorem same_selfL : ∀ ks : List Ex, sameL ks ks = true
  | [] => by rw [sameL]; rfl
  | k :: r => by rw [sameL, same_selfE k, same_selfL r]; rfl
end
/-- How many nodes speak of places. -/
def placeB (n : Nd) : Bool := decide (n.kind = 5 ∨ n.kind = 6)
mutual
def refsE : Ex → Nat | .mk nd ks => (if placeB nd then 1 else 0) + refsL ks
def refsL : List Ex → Nat | [] => 0 | k :: r => refsE k + refsL r
end
mutual
/-- No reference is lost. -/
def kpE (f : Mv) : Ex → Prop | .mk nd ks => (placeB nd = true → placeB (movN f nd) = true) ∧ kpL f ks
def kpL (f : Mv) : List Ex → Prop | [] => True | k :: r => kpE f k ∧ kpL f r
end
theorem place_mov (f : Mv) {n : Nd} {len : Nat} (h : toldB n len = true) : placeB n = false → placeB (movN f n) = false := by
  intro q
  have q := of_decide_eq_false q
  rw [movN_other f h (fun e => q (.inl e)) (fun e => q (.inr e))]
  exact decide_eq_false q
mutual
theorem refs_le (f : Mv) : ∀ t : Ex, allE t = true → refsE (movE f t) ≤ refsE t ∧ (refsE (movE f t) = refsE t → kpE f t)
  | .mk nd ks, h => by
    obtain ⟨h1, h2⟩ := all_mk h
    obtain ⟨i1, i2⟩ := refs_leL f ks h2
    rw [movE, refsE, refsE, kpE]
    cases q : placeB nd
    · rw [place_mov f h1 q]
      exact ⟨by simpa using i1, fun e => ⟨fun x => (by cases x), i2 (by simpa using e)⟩⟩
    · cases p : placeB (movN f nd)
      · exact ⟨by simp; omega, fun e => by simp at e; omega⟩
      · exact ⟨by simp; omega, fun e => ⟨fun _ => rfl, i2 (by simp at e; omega)⟩⟩
theorem refs_leL (f : Mv) : ∀ ks : List Ex, allL ks = true → refsL (movL f ks) ≤ refsL ks ∧ (refsL (movL f ks) = refsL ks → kpL f ks)
  | [], h => by rw [movL, kpL]; exact ⟨Nat.le_refl _, fun _ => trivial⟩
  | k :: r, h => by
    obtain ⟨h1, h2⟩ := allL_cons h
    obtain ⟨i1, i2⟩ := refs_le f k h1
    obtain ⟨j1, j2⟩ := refs_leL f r h2
    rw [movL, refsL, refsL, kpL]
    exact ⟨by omega, fun e => ⟨i2 (by omega), j2 (by omega)⟩⟩
end
mutual
/-- One behind the other, where nothing was lost. -/
theorem mov_mov (f g h : Mv) (H : ∀ n len, toldB n len = true → (placeB n = true → placeB (movN f n) = true) → movN g (movN f n) = movN h n) : ∀ t : Ex, allE t = true → kpE f t → movE g (movE f t) = movE h t
  | .mk nd ks, ha, hk => by
    obtain ⟨h1, h2⟩ := all_mk ha
    rw [kpE] at hk
    rw [movE, movE, movE, H nd _ h1 hk.1, mov_movL f g h H ks h2 hk.2]
theorem mov_movL (f g h : Mv) (H : ∀ n len, toldB n len = true → (placeB n = true → placeB (movN f n) = true) → movN g (movN f n) = movN h n) : ∀ ks : List Ex, allL ks = true → kpL f ks → movL g (movL f ks) = movL h ks
  | [], ha, hk => by rw [movL, movL, movL]
  | k :: r, ha, hk => by
    obtain ⟨h1, h2⟩ := allL_cons ha
    rw [kpL] at hk
    rw [movL, movL, movL, mov_mov f g h H k h1 hk.1, mov_movL f g h H r h2 hk.2]
end
mutual
/-- Where each node stays, the tree stays. -/
theorem mov_stay (f : Mv) (P : Nd → Prop) (H : ∀ n len, toldB n len = true → P n → movN f n = n) : ∀ t : Ex, allE t = true → (∀ n len, toldB n len = true → P n) → movE f t = t
  | .mk nd ks, ha, hp => by
    obtain ⟨h1, h2⟩ := all_mk ha
    rw [movE, H nd _ h1 (hp nd _ h1), mov_stayL f P H ks h2 hp]
theorem mov_stayL (f : Mv) (P : Nd → Prop) (H : ∀ n len, toldB n len = true → P n → movN f n = n) : ∀ ks : List Ex, allL ks = true → (∀ n len, toldB n len = true → P n) → movL f ks = ks
  | [], ha, hp => by rw [movL]
  | k :: r, ha, hp => by
    obtain ⟨h1, h2⟩ := allL_cons ha
    rw [movL, mov_stay f P H k h1 hp, mov_stayL f P H r h2 hp]
end
abbrev idR : Mv := fun r _ => r
theorem movN_id {n : Nd} {len : Nat} (h : toldB n len = true) : movN idR n = n := by
  by_cases h5 : n.kind = 5
  · obtain ⟨e, hm, rfl⟩ := shape5 h h5
    rw [movN_5 idR h5 (by rw [e]), if_pos hm]
  · by_cases h6 : n.kind = 6
    · obtain ⟨e, hm, hm', rfl⟩ := shape6 h h6
      rw [movN_6 idR h6, hm, hm']; rfl
    · exact movN_other idR h h5 h6
theorem mov_id {t : Ex} (h : allE t = true) : movE idR t = t := mov_stay idR (fun _ => True) (fun n len hn _ => movN_id hn) t h (fun _ _ _ => trivial)
/-- Both references of a node, where it is not lost. -/
theorem placed {f : Mv} {n : Nd} {len : Nat} (h : toldB n len = true) (hk : placeB n = true → placeB (movN f n) = true) :
    (n.kind = 5 → mayB (f n.ref n.ref).row (f n.ref n.ref).col = true ∧ movN f n = ⟨5, 0, 0, no, f n.ref n.ref, rf0, 0⟩) ∧ (n.kind = 6 → (mayB (f n.ref n.to).row (f n.ref n.to).col = true ∧ mayB (f n.to n.ref).row (f n.to n.ref).col = true) ∧ movN f n = ⟨6, 0, 0, no, f n.ref n.to, f n.to n.ref, 0⟩) := by
  refine ⟨fun h5 => ?_, fun h6 => ?_⟩
  · obtain ⟨e, hm, rfl⟩ := shape5 h h5
    have hk := hk (decide_eq_true (.inl h5))
    rw [movN_5 f h5 (by rw [e])] at hk ⊢
    cases q : mayB (f n.ref n.ref).row (f n.ref n.ref).col
    · rw [q] at hk; cases hk
    · refine ⟨rfl, ?_⟩
      rw [if_pos rfl, e]
  · obtain ⟨e, hm, hm', rfl⟩ := shape6 h h6
    have hk := hk (decide_eq_true (.inr h6))
    rw [movN_6 f h6] at hk ⊢
    cases q : mayB (f n.ref n.to).row (f n.ref n.to).col
    · rw [q] at hk; cases hk
    · cases p : mayB (f n.to n.ref).row (f n.to n.ref).col
      · rw [q, p] at hk; cases hk
      · refine ⟨⟨rfl, rfl⟩, ?_⟩
        rw [Bool.and_self, if_pos rfl, e]
/-- Node by node, reference by reference. -/
theorem movN_movN {f g h : Mv} (H : ∀ r p, mayB r.row r.col = true → mayB p.row p.col = true → mayB (f r p).row (f r p).col = true → mayB (f p r).row (f p r).col = true →
      (mayB (g (f r p) (f p r)).row (g (f r p) (f p r)).col = mayB (h r p).row (h r p).col) ∧ (mayB (h r p).row (h r p).col = true → g (f r p) (f p r) = h r p)) :
    ∀ n len, toldB n len = true → (placeB n = true → placeB (movN f n) = true) → movN g (movN f n) = movN h n := by
  intro n len hn hk
  obtain ⟨c5, c6⟩ := placed hn hk
  by_cases h5 : n.kind = 5
  · obtain ⟨e, hm, rfl⟩ := shape5 hn h5
    obtain ⟨m1, m2⟩ := c5 h5
    obtain ⟨q1, q2⟩ := H n.ref n.ref hm hm m1 m1
    rw [m2, movN_5 g rfl rfl, movN_5 h h5 (by rw [e])]
    dsimp only
    rw [q1]
    cases p : mayB (h n.ref n.ref).row (h n.ref n.ref).col
    · rfl
    · rw [if_pos rfl, if_pos rfl, q2 p, e]
  · by_cases h6 : n.kind = 6
    · obtain ⟨e, hm, hm', rfl⟩ := shape6 hn h6
      obtain ⟨⟨m1, m3⟩, m2⟩ := c6 h6
      obtain ⟨q1, q2⟩ := H n.ref n.to hm hm' m1 m3
      obtain ⟨q3, q4⟩ := H n.to n.ref hm' hm m3 m1
      rw [m2, movN_6 g rfl, movN_6 h h6]
      dsimp only
      rw [q1, q3]
      cases p : mayB (h n.ref n.to).row (h n.ref n.to).col
      · rfl
      · cases p' : mayB (h n.to n.ref).row (h n.to n.ref).col
        · rfl
        · rw [Bool.and_self, if_pos rfl, if_pos rfl, q2 p, q4 p', e]
    · rw [movN_other f hn h5 h6, movN_other g hn h5 h6, movN_other h hn h5 h6]
end Go.Proofs.Ytiajoppbgebnpaa
