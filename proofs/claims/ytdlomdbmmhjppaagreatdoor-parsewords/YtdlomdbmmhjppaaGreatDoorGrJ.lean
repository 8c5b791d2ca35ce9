/- The words of a tree's text; which nodes there may be, written out. The grammar reads a tree's words as the tree. -/
import Derived.Test.YtdlomdbmmhjppaaGreatDoorTxJ
import Derived.Test.YtdlomdbmmhjppaaGreatDoorDeJ
namespace Go.Proofs.YtdlomdbmmhjppaaGreatDoor.T9
open Go.RowKit
set_option linter.unusedVariables false

theorem ndB_eq {a b : Nd} (h : ndB a b = true) : a = b := by
  obtain ⟨k, o, n, t, ⟨r1, r2, r3, r4⟩, ⟨s1, s2, s3, s4⟩, f⟩ := a
  obtain ⟨k', o', n', t', ⟨r1', r2', r3', r4'⟩, ⟨s1', s2', s3', s4'⟩, f'⟩ := b
  simp only [ndB, rfB, Bool.and_eq_true, decide_eq_true_eq] at h
  simp only [Nd.mk.injEq, Rf.mk.injEq]
  simp_all
abbrev nd00 : Nd := ⟨0, 0, 0, no, ⟨0, 0, false, false⟩, ⟨0, 0, false, false⟩, 0⟩
theorem told_rest {nd : Nd} {len : Nat} (h : toldB nd len = true) : okOf nd len = true ∧ leftOf nd len = 0 ∧ restOf nd = nd00 := by
  unfold toldB at h
  rw [Bool.and_eq_true, Bool.and_eq_true] at h
  exact ⟨h.1.1, of_decide_eq_true h.1.2, ndB_eq h.2⟩
theorem shape7 {nd : Nd} {len : Nat} (h : toldB nd len = true) (hk : nd.kind = 7) : nd = ⟨7, nd.op, 0, no, rf0, rf0, 0⟩ ∧ 1 ≤ nd.op ∧ nd.op ≤ 3 ∧ len = 1 := by
  obtain ⟨kind, op, num, text, ref, tt0, fn⟩ := nd
  simp only at hk; subst hk
  obtain ⟨h1, h2, h3⟩ := told_rest h
  have h3 : (⟨0, 0, num, text, ref, tt0, fn⟩ : Nd) = nd00 := h3
  injection h3 with _ _ e1 e2 e3 e4 e5
  subst e1 e2 e3 e4 e5
  have := of_decide_eq_true (show decide (1 ≤ op ∧ op ≤ 3 ∧ len = 1) = true from h1)
  exact ⟨rfl, this⟩
theorem shape8 {nd : Nd} {len : Nat} (h : toldB nd len = true) (hk : nd.kind = 8) : nd = ⟨8, nd.op, 0, no, rf0, rf0, 0⟩ ∧ 1 ≤ nd.op ∧ nd.op ≤ 12 ∧ len = 2 := by
  obtain ⟨kind, op, num, text, ref, tt0, fn⟩ := nd
  simp only at hk; subst hk
  obtain ⟨h1, h2, h3⟩ := told_rest h
  have h3 : (⟨0, 0, num, text, ref, tt0, fn⟩ : Nd) = nd00 := h3
  injection h3 with _ _ e1 e2 e3 e4 e5
  subst e1 e2 e3 e4 e5
  have := of_decide_eq_true (show decide (1 ≤ op ∧ op ≤ 12 ∧ len = 2) = true from h1)
  exact ⟨rfl, this⟩
theorem shape9 {nd : Nd} {len : Nat} (h : toldB nd len = true) (hk : nd.kind = 9) : nd = ⟨9, 0, 0, no, rf0, rf0, nd.fn⟩ ∧ takesB nd.fn len = true := by
  obtain ⟨kind, op, num, text, ref, tt0, fn⟩ := nd
  simp only at hk; subst hk
  obtain ⟨h1, h2, h3⟩ := told_rest h
  have h3 : (⟨0, op, num, text, ref, tt0, 0⟩ : Nd) = nd00 := h3
  injection h3 with _ e0 e1 e2 e3 e4 _
  subst e0 e1 e2 e3 e4
  exact ⟨rfl, h1⟩
theorem shape1 {nd : Nd} {len : Nat} (h : toldB nd len = true) (hk : nd.kind = 1) : nd = ⟨1, 0, nd.num, no, rf0, rf0, 0⟩ ∧ 0 ≤ nd.num ∧ len = 0 := by
  obtain ⟨kind, op, num, text, ref, tt0, fn⟩ := nd
  simp only at hk; subst hk
  obtain ⟨h1, h2, h3⟩ := told_rest h
  have h3 : (⟨0, op, 0, text, ref, tt0, fn⟩ : Nd) = nd00 := h3
  injection h3 with _ e0 _ e2 e3 e4 e5
  subst e0 e2 e3 e4 e5
  exact ⟨rfl, of_decide_eq_true h1, h2⟩
theorem shape2 {nd : Nd} {len : Nat} (h : toldB nd len = true) (hk : nd.kind = 2) : nd = ⟨2, 0, 0, nd.text, rf0, rf0, 0⟩ ∧ len = 0 := by
  obtain ⟨kind, op, num, text, ref, tt0, fn⟩ := nd
  simp only at hk; subst hk
  obtain ⟨h1, h2, h3⟩ := told_rest h
  have h3 : (⟨0, op, num, no, ref, tt0, fn⟩ : Nd) = nd00 := h3
  injection h3 with _ e0 e1 _ e3 e4 e5
  subst e0 e1 e3 e4 e5
  exact ⟨rfl, h2⟩
theorem shape3 {nd : Nd} {len : Nat} (h : toldB nd len = true) (hk : nd.kind = 3) : nd = ⟨3, 0, nd.num, no, rf0, rf0, 0⟩ ∧ (nd.num = 0 ∨ nd.num = 1) ∧ len = 0 := by
  obtain ⟨kind, op, num, text, ref, tt0, fn⟩ := nd
  simp only at hk; subst hk
  obtain ⟨h1, h2, h3⟩ := told_rest h
  have h3 : (⟨0, op, 0, text, ref, tt0, fn⟩ : Nd) = nd00 := h3
  injection h3 with _ e0 _ e2 e3 e4 e5
  subst e0 e2 e3 e4 e5
  exact ⟨rfl, of_decide_eq_true h1, h2⟩
theorem shape4 {nd : Nd} {len : Nat} (h : toldB nd len = true) (hk : nd.kind = 4) : nd = ⟨4, 0, nd.num, no, rf0, rf0, 0⟩ ∧ (1 ≤ nd.num ∧ nd.num ≤ 6) ∧ len = 0 := by
  obtain ⟨kind, op, num, text, ref, tt0, fn⟩ := nd
  simp only at hk; subst hk
  obtain ⟨h1, h2, h3⟩ := told_rest h
  have h3 : (⟨0, op, 0, text, ref, tt0, fn⟩ : Nd) = nd00 := h3
  injection h3 with _ e0 _ e2 e3 e4 e5
  subst e0 e2 e3 e4 e5
  exact ⟨rfl, of_decide_eq_true h1, h2⟩
theorem shape5 {nd : Nd} {len : Nat} (h : toldB nd len = true) (hk : nd.kind = 5) : nd = ⟨5, 0, 0, no, nd.ref, rf0, 0⟩ ∧ mayB nd.ref.row nd.ref.col = true ∧ len = 0 := by
  obtain ⟨kind, op, num, text, ref, tt0, fn⟩ := nd
  simp only at hk; subst hk
  obtain ⟨h1, h2, h3⟩ := told_rest h
  have h3 : (⟨0, op, num, text, ⟨0, 0, false, false⟩, tt0, fn⟩ : Nd) = nd00 := h3
  injection h3 with _ e0 e1 e2 _ e4 e5
  subst e0 e1 e2 e4 e5
  exact ⟨rfl, h1, h2⟩
theorem shape6 {nd : Nd} {len : Nat} (h : toldB nd len = true) (hk : nd.kind = 6) : nd = ⟨6, 0, 0, no, nd.ref, nd.to, 0⟩ ∧ mayB nd.ref.row nd.ref.col = true ∧ mayB nd.to.row nd.to.col = true ∧ len = 0 := by
  obtain ⟨kind, op, num, text, ref, tt0, fn⟩ := nd
  simp only at hk; subst hk
  obtain ⟨h1, h2, h3⟩ := told_rest h
  have h3 : (⟨0, op, num, text, ⟨0, 0, false, false⟩, ⟨0, 0, false, false⟩, fn⟩ : Nd) = nd00 := h3
  injection h3 with _ e0 e1 e2 _ _ e5
  subst e0 e1 e2 e5
  have h1 : (mayB ref.row ref.col && mayB tt0.row tt0.col) = true := h1
  rw [Bool.and_eq_true] at h1
  exact ⟨rfl, h1.1, h1.2, h2⟩
theorem told_kind {nd : Nd} {len : Nat} (h : toldB nd len = true) : nd.kind = 1 ∨ nd.kind = 2 ∨ nd.kind = 3 ∨ nd.kind = 4 ∨ nd.kind = 5 ∨ nd.kind = 6 ∨ nd.kind = 7 ∨ nd.kind = 8 ∨ nd.kind = 9 := by
  have h1 := (told_rest h).1
  unfold okOf at h1
  by_cases k1 : nd.kind = 1
  · exact .inl k1
  by_cases k2 : nd.kind = 2
  · exact .inr (.inl k2)
  by_cases k3 : nd.kind = 3
  · exact .inr (.inr (.inl k3))
  by_cases k4 : nd.kind = 4
  · exact .inr (.inr (.inr (.inl k4)))
  by_cases k5 : nd.kind = 5
  · exact .inr (.inr (.inr (.inr (.inl k5))))
  by_cases k6 : nd.kind = 6
  · exact .inr (.inr (.inr (.inr (.inr (.inl k6)))))
  by_cases k7 : nd.kind = 7
  · exact .inr (.inr (.inr (.inr (.inr (.inr (.inl k7))))))
  by_cases k8 : nd.kind = 8
  · exact .inr (.inr (.inr (.inr (.inr (.inr (.inr (.inl k8)))))))
  by_cases k9 : nd.kind = 9
  · exact .inr (.inr (.inr (.inr (.inr (.inr (.inr (.inr k9)))))))
  rw [if_neg k1, if_neg k2, if_neg k3, if_neg k4, if_neg k5, if_neg k6, if_neg k7, if_neg k8, if_neg k9] at h1
  cases h1
/-- A word: its kind and its text. -/
abbrev Tk := Nat × List UInt8
def sg7 (s : List UInt8) : Tk := (7, s)
def leafK (n : Nd) : List Tk :=
  if n.kind = 1 then [(1, Lib.itoa n.num)] else if n.kind = 2 then [(2, n.text.data.toList)] else if n.kind = 3 then [(5, if n.num = 1 then [84, 82, 85, 69] else [70, 65, 76, 83, 69])] else if n.kind = 4 then [(6, errL n.num)] else
  if n.kind = 6 then [(3, rfT n.ref), sg7 [58], (3, rfT n.to)] else [(3, rfT n.ref)]
def frK (n : Int) (p : List Tk × Int) : List Tk := if p.2 < n then sg7 [40] :: (p.1 ++ [sg7 [41]]) else p.1
def argK : Bool → List (List Tk × Int) → List Tk | _, [] => [] | f, a :: r => (if f then [sg7 [44]] else []) ++ a.1 ++ argK true r
def aheadK (op : Int) : List Tk := if op = 1 then [sg7 [45]] else if op = 2 then [sg7 [43]] else []
def behindK (op : Int) : List Tk := if op = 1 then [] else if op = 2 then [] else [sg7 [37]]
def nodeK (n : Nd) (l : List (List Tk × Int)) : List Tk :=
  if n.kind = 7 then aheadK n.op ++ frK (lv n) (l.getD 0 ([], 8)) ++ behindK n.op
  else if n.kind = 8 then frK (lv n) (l.getD 0 ([], 8)) ++ sg7 (sgB n.op) :: frK (lv n + 1) (l.getD 1 ([], 8))
  else if n.kind = 9 then (4, nameL n.fn) :: sg7 [40] :: (argK false l ++ [sg7 [41]])
  else leafK n
mutual
/-- A tree's words. -/
def tkE : Ex → List Tk | .mk nd ks => nodeK nd (tkL ks)
def tkL : List Ex → List (List Tk × Int) | [] => [] | k :: r => (tkE k, lv k.nd) :: tkL r
end
theorem tkL_map : ∀ ks : List Ex, tkL ks = ks.map fun k => (tkE k, lv k.nd)
  | [] => by rw [tkL]; rfl
  | k :: r => by rw [tkL, tkL_map r]; rfl
theorem tkE_mk (nd : Nd) (ks : List Ex) : tkE (.mk nd ks) = nodeK nd (ks.map fun k => (tkE k, lv k.nd)) := by rw [tkE, tkL_map]
def tkF (n : Int) (t : Ex) : List Tk := frK n (tkE t, lv t.nd)
/-- How a word is written. -/
def tb (k : Tk) : List UInt8 := if k.1 = 2 then [34] ++ qt k.2 ++ [34] else k.2
def flat (l : List Tk) : List UInt8 := l.flatMap tb
theorem flat_app (a b : List Tk) : flat (a ++ b) = flat a ++ flat b := by simp [flat]
theorem flat_cons (a : Tk) (b : List Tk) : flat (a :: b) = tb a ++ flat b := by simp [flat]
theorem flat_nil : flat [] = [] := rfl
theorem flat_sg (s : List UInt8) : tb (sg7 s) = s := rfl
theorem flat_fr (n : Int) (a : List Tk) (m : Int) : flat (frK n (a, m)) = fr n (flat a, m) := by
  unfold frK fr
  simp only
  split
  · rw [flat_cons, flat_app, flat_cons, flat_nil, flat_sg, flat_sg]; simp
  · rfl
theorem flat_arg : ∀ (l : List (List Tk × Int)) (f : Bool), flat (argK f l) = argF f (l.map fun p => (flat p.1, p.2))
  | [], f => by rfl
  | a :: r, f => by
    rw [argK, List.map_cons, argF, flat_app, flat_app, flat_arg r true]
    cases f
    · rfl
    · rfl
theorem flat_leaf (n : Nd) : flat (leafK n) = leafL n := by
  unfold leafK leafL
  repeat' split
  all_goals simp [flat, tb, sg7]
/-- A tree's text is its words', one behind the other. -/
theorem tx_flat : ∀ t : Ex, txE t = flat (tkE t) := by
  refine Ex.ind fun nd ks ih => ?_
  rw [txE_mk, tkE_mk]
  have hm : (ks.map fun k => (txE k, lv k.nd)) = (ks.map fun k => (tkE k, lv k.nd)).map fun p => (flat p.1, p.2) := by
    rw [List.map_map]
    exact List.map_congr_left fun k hk => by simp [ih k hk]
  rw [hm]
  generalize ks.map (fun k => (tkE k, lv k.nd)) = l
  have hg : ∀ i : Nat, (l.map fun p => (flat p.1, p.2)).getD i ([], 8) = (flat (l.getD i ([], 8)).1, (l.getD i ([], 8)).2) := by
    intro i
    simp only [List.getD_eq_getElem?_getD, List.getElem?_map]
    cases l[i]? <;> rfl
  unfold nodeT nodeK
  split
  · rw [flat_app, flat_app, hg, flat_fr]
    congr 1
    · congr 1
      unfold aheadL aheadK
      repeat' split
      all_goals rfl
    · unfold behindL behindK
      repeat' split
      all_goals rfl
  · split
    · rw [flat_app, flat_cons, hg, hg, flat_fr, flat_fr, flat_sg, List.append_assoc]
    · split
      · rw [flat_cons, flat_cons, flat_app, flat_cons, flat_nil, flat_sg, flat_sg, flat_arg]
        show _ = nameL nd.fn ++ _
        simp
      · exact (flat_leaf nd).symm
end Go.Proofs.YtdlomdbmmhjppaaGreatDoor.T9
namespace Go.Proofs.YtdlomdbmmhjppaaGreatDoor.T9
open Go.RowKit
set_option linter.unusedVariables false

def kt (w : Wd) : Tk := (w.kind, w.text)
/-- These words stand at a place. -/
def At (l : List Wd) (i : Nat) (ts : List Tk) : Prop := ts <+: (l.map kt).drop i
theorem At.app {l : List Wd} {i : Nat} {a b : List Tk} (h : At l i (a ++ b)) : At l i a ∧ At l (i + a.length) b := by
  obtain ⟨r, e⟩ := h
  refine ⟨⟨b ++ r, by rw [← List.append_assoc]; exact e⟩, ⟨r, ?_⟩⟩
  rw [← List.drop_drop, ← e, List.append_assoc, List.drop_left]
theorem At.hd {l : List Wd} {i : Nat} {x : Tk} {r : List Tk} (h : At l i (x :: r)) : (wdAt l i).kind = x.1 ∧ (wdAt l i).text = x.2 ∧ i < l.length := by
  obtain ⟨r', e⟩ := h
  have hi : (l.map kt)[i]? = some x := by
    have := congrArg (fun z => z[0]?) e
    simpa [List.getElem?_drop] using this.symm
  rw [List.getElem?_map, Option.map_eq_some_iff] at hi
  obtain ⟨w, hw, rfl⟩ := hi
  have e : wdAt l i = w := by unfold wdAt; rw [List.getD_eq_getElem?_getD, hw]; rfl
  rw [e]
  exact ⟨rfl, rfl, (List.getElem?_eq_some_iff.1 hw).1⟩
theorem At.tl {l : List Wd} {i : Nat} {x : Tk} {r : List Tk} (h : At l i (x :: r)) : At l (i + 1) r := (At.app (a := [x]) (b := r) h).2
theorem At.sg {l : List Wd} {i : Nat} {s : List UInt8} {r : List Tk} (h : At l i (sg7 s :: r)) : sgAt l i = s := by
  have e := h.hd
  unfold sgAt
  rw [if_pos (show (wdAt l i).kind = 7 from e.1)]; exact e.2.1
theorem At.nosg {l : List Wd} {i : Nat} {x : Tk} {r : List Tk} (h : At l i (x :: r)) (hk : x.1 ≠ 7) : sgAt l i = [] := by
  have e := h.hd
  unfold sgAt
  rw [if_neg (by rw [e.1]; exact hk)]
/-- What the two tables must answer. -/
structure Gr (Rd : List UInt8 → Option Rf) (Fd : List UInt8 → Option (Int × Int × Int)) : Prop where
  ref : ∀ r : Rf, mayB r.row r.col = true → Rd (rfT r) = some r
  fn : ∀ (f : Int) (n : Nat), takesB f n = true → ∃ mn mx, Fd (nameL f) = some (f, mn, mx) ∧ mn ≤ (n : Int) ∧ ((n : Int) ≤ mx ∨ mx < 0)
section
variable {Rd : List UInt8 → Option Rf} {Fd : List UInt8 → Option (Int × Int × Int)} {l : List Wd}
/-- What may stand behind. -/
structure Fo (l : List Wd) (n j : Nat) : Prop where
  op : (opOf (sgAt l j)).1 < n
  pc : sgAt l j ≠ [37]
  co : sgAt l j ≠ [58]
theorem Fo.up {n m j : Nat} (h : Fo l n j) (hm : n ≤ m) : Fo l m j := ⟨Nat.lt_of_lt_of_le h.op hm, h.pc, h.co⟩
theorem runW_at (p : List UInt8 → Bool) : ∀ (k f i : Nat), (∀ q, q < k → p (sgAt l (i + q)) = true) → p (sgAt l (i + k)) = false → k ≤ f → runW l p f i = i + k
  | 0, f, i, h, h', hf => by
    cases f with
    | zero => rfl
    | succ f => rw [runW, if_neg (by rw [show i = i + 0 from rfl, h']; decide)]; rfl
  | k + 1, 0, i, h, h', hf => by omega
  | k + 1, f + 1, i, h, h', hf => by
    rw [runW, if_pos (show p (sgAt l i) = true from h 0 (by omega)), runW_at p k f (i + 1) (fun q hq => by rw [show i + 1 + q = i + (q + 1) by omega]; exact h (q + 1) (by omega)) (by rw [show i + 1 + k = i + (k + 1) by omega]; exact h') (by omega)]
    omega
theorem sg_lt {i : Nat} (h : sgAt l i ≠ []) : i < l.length := by
  rcases Nat.lt_or_ge i l.length with h' | h'
  · exact h'
  · exfalso
    apply h
    unfold sgAt wdAt
    rw [List.getD_eq_getElem?_getD, List.getElem?_eq_none h']
    rfl
/-- Signs, a value, percents. -/
theorem signP_at {i k j0 m o f : Nat} {t0 : Ex} (hk : ∀ q, q < k → sgnOf (sgAt l (i + q)) ≠ 0) (hn : sgnOf (sgAt l (i + k)) = 0) (hp : primP Rd Fd l f (i + k) o = .ok t0 j0) (hm : ∀ q, q < m → sgAt l (j0 + q) = [37]) (he : sgAt l (j0 + m) ≠ [37]) :
    signP Rd Fd l (f + 1) i o = .ok (signsX l i k (percX m t0)) (j0 + m) := by
  have hkl : k ≤ l.length := by
    cases k with
    | zero => omega
    | succ k =>
      have := sg_lt (l := l) (i := i + k) (fun e => hk k (by omega) (by rw [e]; rfl))
      omega
  have hml : m ≤ l.length := by
    cases m with
    | zero => omega
    | succ m =>
      have := sg_lt (l := l) (i := j0 + m) (fun e => by have := hm m (by omega); rw [e] at this; cases this)
      omega
  have r1 := runW_at (l := l) (fun s => sgnOf s != 0) k l.length i (fun q hq => by simpa using hk q hq) (by simpa using hn) hkl
  have r2 := runW_at (l := l) (fun s => s == [37]) m l.length j0 (fun q hq => by simpa using hm q hq) (by simpa using he) hml
  rw [signP, r1, hp]
  simp only
  rw [r2, Nat.add_sub_cancel_left, Nat.add_sub_cancel_left]
theorem signsX_succ (i : Nat) : ∀ (k : Nat) (t : Ex), signsX l i (k + 1) t = unX (sgnOf (wdAt l i).text) (signsX l (i + 1) k t)
  | 0, t => rfl
  | k + 1, t => by
    have e : signsX l i (k + 1 + 1) t = signsX l i (k + 1) (unX (sgnOf (wdAt l (i + (k + 1))).text) t) := rfl
    rw [e, signsX_succ i k]
    have e2 : signsX l (i + 1) (k + 1) t = signsX l (i + 1) k (unX (sgnOf (wdAt l (i + 1 + k)).text) t) := rfl
    rw [e2, show i + 1 + k = i + (k + 1) by omega]
theorem percX_succ : ∀ (m : Nat) (t : Ex), percX (m + 1) t = unX 3 (percX m t)
  | 0, t => rfl
  | m + 1, t => by
    have e : percX (m + 1 + 1) t = percX (m + 1) (unX 3 t) := rfl
    rw [e, percX_succ m (unX 3 t)]
    rfl
/-- Down the lines. -/
theorem line_down {i j o F : Nat} {t : Ex} (h : ∀ f, F ≤ f → signP Rd Fd l f i o = .ok t j) : ∀ (d n f : Nat), n + d = 6 → 1 ≤ n → Fo l n j → F + 1 + d ≤ f → lineP Rd Fd l f n i o = .ok t j
  | 0, n, 0, hn, h1, hf, hF => by omega
  | 0, n, f + 1, hn, h1, hf, hF => by
    rw [lineP, if_pos (by omega)]
    exact h f (by omega)
  | d + 1, n, 0, hn, h1, hf, hF => by omega
  | d + 1, n, 1, hn, h1, hf, hF => by omega
  | d + 1, n, f + 1 + 1, hn, h1, hf, hF => by
    rw [lineP, if_neg (by omega), line_down h d (n + 1) (f + 1) (by omega) (by omega) (hf.up (by omega)) (by omega)]
    simp only
    rw [restP, if_neg (by have := hf.op; omega)]
theorem line_chain {i j o F : Nat} {t : Ex} (h : ∀ f, F ≤ f → signP Rd Fd l f i o = .ok t j) (n f : Nat) (h5 : n ≤ 5) (h1 : 1 ≤ n) (hf : Fo l (n + 1) j) (hF : F + 7 ≤ f + n) : ∃ f', f = f' + 1 ∧ lineP Rd Fd l f n i o = restP Rd Fd l f' n t j o := by
  obtain ⟨f', rfl⟩ : ∃ f', f = f' + 1 := ⟨f - 1, by omega⟩
  refine ⟨f', rfl, ?_⟩
  rw [lineP, if_neg (by omega), line_down h (5 - n) (n + 1) f' (by omega) (by omega) hf (by omega)]
/-- What is known of a tree that is read from some level on. -/
structure Rds (Rd : List UInt8 → Option Rf) (Fd : List UInt8 → Option (Int × Int × Int)) (l : List Wd) (t : Ex) : Prop where
  /-- A value with percents. -/
  x7 : ∀ i o f, At l i (tkF 7 t) → sgAt l (i + (tkF 7 t).length) ≠ [58] → o + 2 * depthE t ≤ 256 → 4 * (tkF 7 t).length + 1 ≤ f →
    ∃ t0 j0 m, primP Rd Fd l f i o = .ok t0 j0 ∧ percX m t0 = t ∧ j0 + m = i + (tkF 7 t).length ∧ (∀ q, q < m → sgAt l (j0 + q) = [37]) ∧ sgnOf (sgAt l i) = 0
  /-- The same with signs ahead. -/
  x6 : ∀ i o, At l i (tkF 6 t) → sgAt l (i + (tkF 6 t).length) ≠ [58] → o + 2 * depthE t ≤ 256 → ∃ k, (∀ q, q < k → sgnOf (sgAt l (i + q)) ≠ 0) ∧ sgnOf (sgAt l (i + k)) = 0 ∧
    ∀ f, 4 * (tkF 6 t).length + 1 ≤ f → ∃ t0 j0 m, primP Rd Fd l f (i + k) o = .ok t0 j0 ∧ signsX l i k (percX m t0) = t ∧ j0 + m = i + (tkF 6 t).length ∧ (∀ q, q < m → sgAt l (j0 + q) = [37])
  /-- A line. -/
  ln : ∀ (n i o f : Nat), 1 ≤ n → n ≤ 6 → At l i (tkF n t) → Fo l n (i + (tkF n t).length) → o + 2 * depthE t ≤ 256 → 4 * (tkF n t).length + 9 ≤ f + n → lineP Rd Fd l f n i o = .ok t (i + (tkF n t).length)
  /-- A line's first values. -/
  ch : ∀ (n i o f : Nat), 1 ≤ n → n ≤ 5 → At l i (tkF n t) → Fo l (n + 1) (i + (tkF n t).length) → o + 2 * depthE t ≤ 256 → 4 * (tkF n t).length + 9 ≤ f + n → ∃ f', f ≤ f' + (tkF n t).length ∧ lineP Rd Fd l f n i o = restP Rd Fd l f' n t (i + (tkF n t).length) o
theorem x6_sign {t : Ex} (h : ∀ i o, At l i (tkF 6 t) → sgAt l (i + (tkF 6 t).length) ≠ [58] → o + 2 * depthE t ≤ 256 → ∃ k, (∀ q, q < k → sgnOf (sgAt l (i + q)) ≠ 0) ∧ sgnOf (sgAt l (i + k)) = 0 ∧
    ∀ f, 4 * (tkF 6 t).length + 1 ≤ f → ∃ t0 j0 m, primP Rd Fd l f (i + k) o = .ok t0 j0 ∧ signsX l i k (percX m t0) = t ∧ j0 + m = i + (tkF 6 t).length ∧ (∀ q, q < m → sgAt l (j0 + q) = [37]))
    {i o : Nat} (hA : At l i (tkF 6 t)) (h8 : sgAt l (i + (tkF 6 t).length) ≠ [58]) (hp : sgAt l (i + (tkF 6 t).length) ≠ [37]) (ho : o + 2 * depthE t ≤ 256) : ∀ f, 4 * (tkF 6 t).length + 2 ≤ f → signP Rd Fd l f i o = .ok t (i + (tkF 6 t).length) := by
  obtain ⟨k, hk, hn, hs⟩ := h i o hA h8 ho
  intro f hf
  obtain ⟨f', rfl⟩ : ∃ f', f = f' + 1 := ⟨f - 1, by omega⟩
  obtain ⟨t0, j0, m, e1, e2, e3, e4⟩ := hs f' (by omega)
  rw [signP_at hk hn e1 e4 (by rw [e3]; exact hp), e2, e3]
end
end Go.Proofs.YtdlomdbmmhjppaaGreatDoor.T9
