/- The grammar reads a tree's words as the tree: node by node. A tree's text is cut into the tree's words. Two trees that may be have one text just if they are the same. How many brackets stand within one another in a tree's text: at most two a level; no Go in sight. -/
import Derived.Test.YtdlomdbmmhjppaaGreatDoorGrJ
namespace Go.Proofs.YtdlomdbmmhjppaaGreatDoor.T9
open Go.RowKit
set_option linter.unusedVariables false

/-- What a value may begin with. -/
def VS (x : Tk) : Prop := (1 ≤ x.1 ∧ x.1 ≤ 6) ∨ x = sg7 [40] ∨ x = sg7 [45] ∨ x = sg7 [43]
theorem frK_vs (n : Int) (a : List Tk) (m : Int) (h : ∃ x r, a = x :: r ∧ VS x) : ∃ x r, frK n (a, m) = x :: r ∧ VS x := by
  unfold frK
  split
  · exact ⟨_, _, rfl, .inr (.inl rfl)⟩
  · exact h
theorem tkE_vs : ∀ t : Ex, allE t = true → ∃ x r, tkE t = x :: r ∧ VS x := by
  refine Ex.ind fun nd ks ih => ?_
  intro h
  rw [allE, Bool.and_eq_true] at h
  rw [tkE_mk]
  unfold nodeK
  split
  · rename_i hk
    obtain ⟨_, h1, h3, hlen⟩ := shape7 h.1 hk
    obtain ⟨k, rfl⟩ := List.length_eq_one_iff.1 hlen
    simp only [List.map_cons, List.map_nil, List.getD_cons_zero]
    unfold aheadK
    split
    · exact ⟨_, _, rfl, .inr (.inr (.inl rfl))⟩
    · split
      · exact ⟨_, _, rfl, .inr (.inr (.inr rfl))⟩
      · obtain ⟨x, r, e, hx⟩ := frK_vs (lv nd) (tkE k) (lv k.nd) (ih k (by simp) (all_kid h.2 (by simp)))
        rw [e]
        exact ⟨x, _, rfl, hx⟩
  · split
    · rename_i h7 hk
      obtain ⟨_, h1, h3, hlen⟩ := shape8 h.1 hk
      obtain ⟨k, j, rfl⟩ := len_two hlen
      simp only [List.map_cons, List.map_nil, List.getD_cons_zero]
      obtain ⟨x, r, e, hx⟩ := frK_vs (lv nd) (tkE k) (lv k.nd) (ih k (by simp) (all_kid h.2 (by simp)))
      rw [e]
      exact ⟨x, _, rfl, hx⟩
    · split
      · exact ⟨_, _, rfl, .inl ⟨by simp, by simp⟩⟩
      · unfold leafK
        repeat' split
        all_goals exact ⟨_, _, rfl, .inl ⟨by simp, by simp⟩⟩
section
variable {Rd : List UInt8 → Option Rf} {Fd : List UInt8 → Option (Int × Int × Int)} {l : List Wd}
theorem vs_sign {x : Tk} (h : VS x) (hx : x.1 ≠ 7 ∨ x.2 = [40]) {i : Nat} {r : List Tk} (hA : At l i (x :: r)) : sgnOf (sgAt l i) = 0 := by
  rcases hx with hx | hx
  · rw [hA.nosg hx]; rfl
  · obtain ⟨a, b⟩ := x
    simp only at hx
    subst hx
    rcases h with h | h | h | h
    · rw [hA.nosg (by simp only at h ⊢; omega)]; rfl
    · rw [h] at hA; rw [hA.sg]; rfl
    · rw [h] at hA; injection h with _ h; cases h
    · rw [h] at hA; injection h with _ h; cases h
theorem tkF_hi {n : Int} {t : Ex} (h : n ≤ lv t.nd) : tkF n t = tkE t := by
  unfold tkF frK
  rw [if_neg (by simp only; omega)]
theorem tkF_lo {n : Int} {t : Ex} (h : lv t.nd < n) : tkF n t = sg7 [40] :: (tkE t ++ [sg7 [41]]) := by
  unfold tkF frK
  rw [if_pos h]
/-- What is known of a tree's own words, no brackets around it. -/
structure Own (Rd : List UInt8 → Option Rf) (Fd : List UInt8 → Option (Int × Int × Int)) (l : List Wd) (t : Ex) : Prop where
  cl : ∀ (n i o f : Nat), 1 ≤ n → n ≤ 6 → (n : Int) ≤ lv t.nd → At l i (tkE t) → Fo l n (i + (tkE t).length) → o + 2 * depthE t ≤ 257 → 4 * (tkE t).length + 9 ≤ f + n → lineP Rd Fd l f n i o = .ok t (i + (tkE t).length)
  cc : ∀ (n i o f : Nat), 1 ≤ n → n ≤ 5 → (n : Int) ≤ lv t.nd → At l i (tkE t) → Fo l (n + 1) (i + (tkE t).length) → o + 2 * depthE t ≤ 257 → 4 * (tkE t).length + 9 ≤ f + n → ∃ f', f ≤ f' + (tkE t).length ∧ lineP Rd Fd l f n i o = restP Rd Fd l f' n t (i + (tkE t).length) o
  c7 : 7 ≤ lv t.nd → ∀ i o f, At l i (tkE t) → sgAt l (i + (tkE t).length) ≠ [58] → o + 2 * depthE t ≤ 257 → 4 * (tkE t).length + 1 ≤ f →
    ∃ t0 j0 m, primP Rd Fd l f i o = .ok t0 j0 ∧ percX m t0 = t ∧ j0 + m = i + (tkE t).length ∧ (∀ q, q < m → sgAt l (j0 + q) = [37]) ∧ sgnOf (sgAt l i) = 0
  c6 : 6 ≤ lv t.nd → ∀ i o, At l i (tkE t) → sgAt l (i + (tkE t).length) ≠ [58] → o + 2 * depthE t ≤ 257 → ∃ k, (∀ q, q < k → sgnOf (sgAt l (i + q)) ≠ 0) ∧ sgnOf (sgAt l (i + k)) = 0 ∧
    ∀ f, 4 * (tkE t).length + 1 ≤ f → ∃ t0 j0 m, primP Rd Fd l f (i + k) o = .ok t0 j0 ∧ signsX l i k (percX m t0) = t ∧ j0 + m = i + (tkE t).length ∧ (∀ q, q < m → sgAt l (j0 + q) = [37])
/-- A tree in brackets. -/
theorem prim_br {t : Ex} (h : Own Rd Fd l t) {i o f : Nat} (hA : At l i (sg7 [40] :: (tkE t ++ [sg7 [41]]))) (ho : o + 2 * depthE t ≤ 256) (hf : 4 * ((tkE t).length + 2) + 1 ≤ f) : primP Rd Fd l f i o = .ok t (i + ((tkE t).length + 2)) := by
  obtain ⟨f', rfl⟩ : ∃ f', f = f' + 1 := ⟨f - 1, by omega⟩
  have hd := depth_pos t
  have h1 := hA.hd.1
  have h2 := hA.sg
  have h3 := hA.tl
  obtain ⟨h4, h5⟩ := h3.app
  have h6 := h5.sg
  have hl := h.cl 1 (i + 1) (o + 1) f' (by omega) (by omega) (by have := lv_pos t.nd; omega) h4 ⟨by rw [h6]; decide, by rw [h6]; decide, by rw [h6]; decide⟩ (by omega) (by omega)
  rw [primP]
  simp only [h1, sg7]
  rw [if_pos h2, if_neg (by omega), hl]
  simp only
  rw [if_pos h6]
  congr 1
  omega
theorem Own.rds {t : Ex} (h : Own Rd Fd l t) : Rds Rd Fd l t := by
  have hb6 : ∀ i o, At l i (tkF 6 t) → sgAt l (i + (tkF 6 t).length) ≠ [58] → o + 2 * depthE t ≤ 256 → ∃ k, (∀ q, q < k → sgnOf (sgAt l (i + q)) ≠ 0) ∧ sgnOf (sgAt l (i + k)) = 0 ∧
    ∀ f, 4 * (tkF 6 t).length + 1 ≤ f → ∃ t0 j0 m, primP Rd Fd l f (i + k) o = .ok t0 j0 ∧ signsX l i k (percX m t0) = t ∧ j0 + m = i + (tkF 6 t).length ∧ (∀ q, q < m → sgAt l (j0 + q) = [37]) := by
    intro i o hA h8 ho
    by_cases hv : 6 ≤ lv t.nd
    · rw [tkF_hi hv] at hA h8 ⊢
      exact h.c6 hv i o hA h8 (by omega)
    · rw [tkF_lo (by omega)] at hA h8 ⊢
      refine ⟨0, fun q hq => absurd hq (Nat.not_lt_zero q), by rw [Nat.add_zero, hA.sg]; rfl, fun f hf => ⟨t, i + ((tkE t).length + 2), 0, ?_, rfl, by simp, fun q hq => absurd hq (Nat.not_lt_zero q)⟩⟩
      simp only [List.length_cons, List.length_append, List.length_nil] at hf
      exact prim_br h hA ho (by omega)
  refine ⟨?_, hb6, ?_, ?_⟩
  · intro i o f hA h8 ho hf
    by_cases hv : 7 ≤ lv t.nd
    · rw [tkF_hi hv] at hA h8 hf ⊢
      exact h.c7 hv i o f hA h8 (by omega) hf
    · rw [tkF_lo (by omega)] at hA h8 hf ⊢
      refine ⟨t, i + ((tkE t).length + 2), 0, ?_, rfl, by simp, fun q hq => absurd hq (Nat.not_lt_zero q), by rw [hA.sg]; rfl⟩
      simp only [List.length_cons, List.length_append, List.length_nil] at hf
      exact prim_br h hA ho (by omega)
  · intro n i o f h1 h6 hA hF ho hf
    by_cases hv : (n : Int) ≤ lv t.nd
    · rw [tkF_hi hv] at hA hF hf ⊢
      exact h.cl n i o f h1 h6 hv hA hF (by omega) hf
    · have e : tkF n t = tkF 6 t := by rw [tkF_lo (by omega), tkF_lo (by omega)]
      rw [e] at hA hF hf ⊢
      exact line_down (x6_sign hb6 hA hF.co hF.pc ho) (6 - n) n f (by omega) h1 hF (by omega)
  · intro n i o f h1 h5 hA hF ho hf
    by_cases hv : (n : Int) ≤ lv t.nd
    · rw [tkF_hi hv] at hA hF hf ⊢
      exact h.cc n i o f h1 h5 hv hA hF (by omega) hf
    · have e : tkF n t = tkF 6 t := by rw [tkF_lo (by omega), tkF_lo (by omega)]
      rw [e] at hA hF hf ⊢
      obtain ⟨f', rfl, he⟩ := line_chain (x6_sign hb6 hA hF.co hF.pc ho) n f h5 h1 hF (by omega)
      refine ⟨f', ?_, he⟩
      have : 1 ≤ (tkF 6 t).length := by rw [tkF_lo (by omega)]; simp
      omega
/-- From signs, value and percents on all lines. -/
theorem own_six {t : Ex} (hv : 6 ≤ lv t.nd) (hne : 1 ≤ (tkE t).length)
    (c7 : 7 ≤ lv t.nd → ∀ i o f, At l i (tkE t) → sgAt l (i + (tkE t).length) ≠ [58] → o + 2 * depthE t ≤ 257 → 4 * (tkE t).length + 1 ≤ f →
      ∃ t0 j0 m, primP Rd Fd l f i o = .ok t0 j0 ∧ percX m t0 = t ∧ j0 + m = i + (tkE t).length ∧ (∀ q, q < m → sgAt l (j0 + q) = [37]) ∧ sgnOf (sgAt l i) = 0)
    (c6 : ∀ i o, At l i (tkE t) → sgAt l (i + (tkE t).length) ≠ [58] → o + 2 * depthE t ≤ 257 → ∃ k, (∀ q, q < k → sgnOf (sgAt l (i + q)) ≠ 0) ∧ sgnOf (sgAt l (i + k)) = 0 ∧
      ∀ f, 4 * (tkE t).length + 1 ≤ f → ∃ t0 j0 m, primP Rd Fd l f (i + k) o = .ok t0 j0 ∧ signsX l i k (percX m t0) = t ∧ j0 + m = i + (tkE t).length ∧ (∀ q, q < m → sgAt l (j0 + q) = [37])) : Own Rd Fd l t := by
  have hs : ∀ i o, At l i (tkE t) → sgAt l (i + (tkE t).length) ≠ [58] → sgAt l (i + (tkE t).length) ≠ [37] → o + 2 * depthE t ≤ 257 → ∀ f, 4 * (tkE t).length + 2 ≤ f → signP Rd Fd l f i o = .ok t (i + (tkE t).length) := by
    intro i o hA h8 hp ho f hf
    obtain ⟨k, hk, hn, hs⟩ := c6 i o hA h8 ho
    obtain ⟨f', rfl⟩ : ∃ f', f = f' + 1 := ⟨f - 1, by omega⟩
    obtain ⟨t0, j0, m, e1, e2, e3, e4⟩ := hs f' (by omega)
    rw [signP_at hk hn e1 e4 (by rw [e3]; exact hp), e2, e3]
  refine ⟨?_, ?_, c7, fun _ => c6⟩
  · intro n i o f h1 h6 _ hA hF ho hf
    exact line_down (hs i o hA hF.co hF.pc ho) (6 - n) n f (by omega) h1 hF (by omega)
  · intro n i o f h1 h5 _ hA hF ho hf
    obtain ⟨f', rfl, he⟩ := line_chain (hs i o hA hF.co hF.pc ho) n f h5 h1 hF (by omega)
    exact ⟨f', by omega, he⟩
/-- A node of one value. -/
theorem own_single {t : Ex} (hv : lv t.nd = 8) (hne : 1 ≤ (tkE t).length) (h : ∀ i o f, At l i (tkE t) → sgAt l (i + (tkE t).length) ≠ [58] → o + 2 * depthE t ≤ 257 → 4 * (tkE t).length + 1 ≤ f → primP Rd Fd l f i o = .ok t (i + (tkE t).length) ∧ sgnOf (sgAt l i) = 0) : Own Rd Fd l t := by
  refine own_six (by omega) hne ?_ ?_
  · intro _ i o f hA h8 ho hf
    obtain ⟨h1, h2⟩ := h i o f hA h8 ho hf
    exact ⟨t, _, 0, h1, rfl, rfl, fun q hq => absurd hq (Nat.not_lt_zero q), h2⟩
  · intro i o hA h8 ho
    refine ⟨0, fun q hq => absurd hq (Nat.not_lt_zero q), (h i o _ hA h8 ho (Nat.le_refl _)).2, fun f hf => ⟨t, _, 0, (h i o f hA h8 ho hf).1, rfl, rfl, fun q hq => absurd hq (Nat.not_lt_zero q)⟩⟩
theorem own_perc {k : Ex} (hk : Rds Rd Fd l k) (hl : 1 ≤ (tkF 7 k).length) : Own Rd Fd l (unX 3 k) := by
  have e : tkE (unX 3 k) = tkF 7 k ++ [sg7 [37]] := by
    unfold unX
    rw [tkE_mk]
    rfl
  have hd : depthE (unX 3 k) = 1 + depthE k := by unfold unX; rw [depthE, depthL, depthL]; omega
  have hv : lv (unX 3 k).nd = 7 := rfl
  have c7 : ∀ i o f, At l i (tkE (unX 3 k)) → sgAt l (i + (tkE (unX 3 k)).length) ≠ [58] → o + 2 * depthE (unX 3 k) ≤ 257 → 4 * (tkE (unX 3 k)).length + 1 ≤ f →
      ∃ t0 j0 m, primP Rd Fd l f i o = .ok t0 j0 ∧ percX m t0 = (unX 3 k) ∧ j0 + m = i + (tkE (unX 3 k)).length ∧ (∀ q, q < m → sgAt l (j0 + q) = [37]) ∧ sgnOf (sgAt l i) = 0 := by
    intro i o f hA h8 ho hf
    rw [e] at hA hf ⊢
    rw [hd] at ho
    rw [List.length_append] at hf
    obtain ⟨hA1, hA2⟩ := hA.app
    have h37 := hA2.sg
    obtain ⟨t0, j0, m, e1, e2, e3, e4, e5⟩ := hk.x7 i o f hA1 (by rw [h37]; decide) (by omega) (by omega)
    refine ⟨t0, j0, m + 1, e1, by rw [percX_succ, e2], by rw [List.length_append]; simp only [List.length_cons, List.length_nil]; omega, ?_, e5⟩
    intro q hq
    by_cases hqm : q < m
    · exact e4 q hqm
    · rw [show j0 + q = i + (tkF 7 k).length by omega]; exact h37
  refine own_six (by rw [hv]; omega) (by rw [e]; simp) (fun _ => c7) ?_
  intro i o hA h8 ho
  obtain ⟨_, _, _, _, _, _, _, e5⟩ := c7 i o _ hA h8 ho (Nat.le_refl _)
  refine ⟨0, fun q hq => absurd hq (Nat.not_lt_zero q), e5, fun f hf => ?_⟩
  obtain ⟨t0, j0, m, e1, e2, e3, e4, _⟩ := c7 i o f hA h8 ho hf
  exact ⟨t0, j0, m, e1, e2, e3, e4⟩
theorem own_sign {k : Ex} {op : Int} (hop : op = 1 ∨ op = 2) (hk : Rds Rd Fd l k) : Own Rd Fd l (unX op k) := by
  obtain ⟨s, hs, hsg⟩ : ∃ s, aheadK op = [sg7 s] ∧ sgnOf s = op := by
    rcases hop with rfl | rfl
    · exact ⟨[45], rfl, rfl⟩
    · exact ⟨[43], rfl, rfl⟩
  have h3 : op ≠ 3 := by omega
  have hv : lv (unX op k).nd = 6 := by
    rcases hop with rfl | rfl
    · rfl
    · rfl
  have e : tkE (unX op k) = sg7 s :: tkF 6 k := by
    have hv' : lv ⟨7, op, 0, no, rf0, rf0, 0⟩ = 6 := hv
    unfold unX
    rw [tkE_mk]
    unfold nodeK
    rw [if_pos rfl, hv']
    simp only [hs, List.map_cons, List.map_nil, List.getD_cons_zero]
    have hb : behindK op = [] := by
      rcases hop with rfl | rfl
      · rfl
      · rfl
    rw [hb, List.append_nil]
    rfl
  have hd : depthE (unX op k) = 1 + depthE k := by unfold unX; rw [depthE, depthL, depthL]; omega
  refine own_six (by rw [hv]; omega) (by rw [e]; simp) (fun h7 => by rw [hv] at h7; omega) ?_
  intro i o hA h8 ho
  rw [e] at hA h8 ⊢
  rw [hd] at ho
  have hA2 := hA.tl
  have e1 : i + (sg7 s :: tkF 6 k).length = i + 1 + (tkF 6 k).length := by simp only [List.length_cons]; omega
  rw [e1] at h8
  obtain ⟨q, hq, hn, hf⟩ := hk.x6 (i + 1) o hA2 h8 (by omega)
  refine ⟨q + 1, ?_, by rw [show i + (q + 1) = i + 1 + q by omega]; exact hn, ?_⟩
  · intro r hr
    by_cases h0 : r = 0
    · subst h0
      rw [Nat.add_zero, hA.sg, hsg]; omega
    · rw [show i + r = i + 1 + (r - 1) by omega]; exact hq _ (by omega)
  · intro f hf'
    simp only [List.length_cons] at hf'
    obtain ⟨t0, j0, m, a1, a2, a3, a4⟩ := hf f (by omega)
    refine ⟨t0, j0, m, by rw [show i + (q + 1) = i + 1 + q by omega]; exact a1, ?_, by rw [e1]; exact a3, a4⟩
    rw [signsX_succ, a2]
    have ht : (wdAt l i).text = s := hA.hd.2.1
    rw [ht, hsg]
theorem op_of {op : Int} (h : 1 ≤ op ∧ op ≤ 12) : opOf (sgB op) = ((lvB op).toNat, op) ∧ 1 ≤ lvB op ∧ lvB op ≤ 5 ∧ sgB op ≠ [37] ∧ sgB op ≠ [58] := by
  rcases op_cases h with rfl | rfl | rfl | rfl | rfl | rfl | rfl | rfl | rfl | rfl | rfl | rfl
  all_goals decide
theorem own_bin {a b : Ex} {op : Int} (hop : 1 ≤ op ∧ op ≤ 12) (ha : Rds Rd Fd l a) (hb : Rds Rd Fd l b) (hna : 1 ≤ (tkF (lvB op) a).length) : Own Rd Fd l (binX op a b) := by
  obtain ⟨ho1, ho2, ho3, ho4, ho5⟩ := op_of hop
  have hv : lv (binX op a b).nd = lvB op := rfl
  obtain ⟨n, hn⟩ : ∃ n : Nat, lvB op = n := ⟨(lvB op).toNat, by omega⟩
  rw [hn] at ho1 ho2 ho3 hv hna
  have e : tkE (binX op a b) = tkF n a ++ sg7 (sgB op) :: tkF ((n + 1 : Nat) : Int) b := by
    unfold binX
    rw [tkE_mk]
    have hv' : lv ⟨8, op, 0, no, rf0, rf0, 0⟩ = (n : Int) := hv
    unfold nodeK
    rw [if_neg (by show ¬ (8 : Int) = 7; decide), if_pos rfl, hv']
    rfl
  have hd : depthE (binX op a b) = 1 + max (depthE a) (depthE b) := by unfold binX; rw [depthE, depthL, depthL, depthL]; omega
  have hlen : (tkE (binX op a b)).length = (tkF n a).length + 1 + (tkF ((n + 1 : Nat) : Int) b).length := by rw [e]; simp only [List.length_append, List.length_cons]; omega
  -- on its own line
  have hcc : ∀ i o f, At l i (tkE (binX op a b)) → Fo l (n + 1) (i + (tkE (binX op a b)).length) → o + 2 * depthE (binX op a b) ≤ 257 → 4 * (tkE (binX op a b)).length + 9 ≤ f + n → ∃ f', f ≤ f' + (tkE (binX op a b)).length ∧ lineP Rd Fd l f n i o = restP Rd Fd l f' n (binX op a b) (i + (tkE (binX op a b)).length) o := by
    intro i o f hA hF ho hf
    rw [hlen] at hF hf ⊢
    rw [e] at hA
    rw [hd] at ho
    obtain ⟨hA1, hA2⟩ := hA.app
    have hsg := hA2.sg
    have hA3 := hA2.tl
    obtain ⟨f1, hf1, hl1⟩ := ha.ch n i o f (by omega) (by omega) hA1 ⟨by rw [hsg, ho1]; simp, by rw [hsg]; exact ho4, by rw [hsg]; exact ho5⟩ (by omega) (by omega)
    obtain ⟨f2, rfl⟩ : ∃ f2, f1 = f2 + 1 := ⟨f1 - 1, by omega⟩
    have hl2 := hb.ln (n + 1) (i + (tkF n a).length + 1) o f2 (by omega) (by omega) hA3 (by rw [show i + (tkF n a).length + 1 + (tkF ((n + 1 : Nat) : Int) b).length = i + ((tkF n a).length + 1 + (tkF ((n + 1 : Nat) : Int) b).length) by omega]; exact hF) (by omega) (by omega)
    refine ⟨f2, by omega, ?_⟩
    rw [hl1, restP, hsg, ho1]
    simp only [Int.toNat_natCast, if_true]
    rw [hl2]
    simp only
    congr 1
    omega
  have main : ∀ d m, m + d = n → 1 ≤ m → (∀ i o f, At l i (tkE (binX op a b)) → Fo l m (i + (tkE (binX op a b)).length) → o + 2 * depthE (binX op a b) ≤ 257 → 4 * (tkE (binX op a b)).length + 9 ≤ f + m → lineP Rd Fd l f m i o = .ok (binX op a b) (i + (tkE (binX op a b)).length)) ∧
      (∀ i o f, At l i (tkE (binX op a b)) → Fo l (m + 1) (i + (tkE (binX op a b)).length) → o + 2 * depthE (binX op a b) ≤ 257 → 4 * (tkE (binX op a b)).length + 9 ≤ f + m → ∃ f', f ≤ f' + (tkE (binX op a b)).length ∧ lineP Rd Fd l f m i o = restP Rd Fd l f' m (binX op a b) (i + (tkE (binX op a b)).length) o) := by
    intro d
    induction d with
    | zero =>
      intro m hm h1
      obtain rfl : m = n := by omega
      refine ⟨?_, hcc⟩
      intro i o f hA hF ho hf
      obtain ⟨f', hf', hl⟩ := hcc i o f hA (hF.up (by omega)) ho hf
      obtain ⟨f2, rfl⟩ : ∃ f2, f' = f2 + 1 := ⟨f' - 1, by omega⟩
      rw [hl, restP, if_neg (by have := hF.op; omega)]
    | succ d ih =>
      intro m hm h1
      obtain ⟨ihl, _⟩ := ih (m + 1) (by omega) (by omega)
      have hc : ∀ i o f, At l i (tkE (binX op a b)) → Fo l (m + 1) (i + (tkE (binX op a b)).length) → o + 2 * depthE (binX op a b) ≤ 257 → 4 * (tkE (binX op a b)).length + 9 ≤ f + m → ∃ f', f = f' + 1 ∧ lineP Rd Fd l f m i o = restP Rd Fd l f' m (binX op a b) (i + (tkE (binX op a b)).length) o := by
        intro i o f hA hF ho hf
        obtain ⟨f', rfl⟩ : ∃ f', f = f' + 1 := ⟨f - 1, by omega⟩
        refine ⟨f', rfl, ?_⟩
        rw [lineP, if_neg (by omega), ihl i o f' hA hF ho (by omega)]
      refine ⟨?_, ?_⟩
      · intro i o f hA hF ho hf
        obtain ⟨f', rfl, hl⟩ := hc i o f hA (hF.up (by omega)) ho hf
        obtain ⟨f2, rfl⟩ : ∃ f2, f' = f2 + 1 := ⟨f' - 1, by omega⟩
        rw [hl, restP, if_neg (by have := hF.op; omega)]
      · intro i o f hA hF ho hf
        obtain ⟨f', rfl, hl⟩ := hc i o f hA hF ho hf
        exact ⟨f', by omega, hl⟩
  refine ⟨?_, ?_, fun h7 => by rw [hv] at h7; omega, fun h6 => by rw [hv] at h6; omega⟩
  · intro m i o f h1 h6 hm hA hF ho hf
    rw [hv] at hm
    exact (main (n - m) m (by omega) h1).1 i o f hA hF ho hf
  · intro m i o f h1 h5 hm hA hF ho hf
    rw [hv] at hm
    exact (main (n - m) m (by omega) h1).2 i o f hA hF ho hf
theorem tkF_one (t : Ex) : tkF 1 t = tkE t := tkF_hi (by have := lv_pos t.nd; omega)
theorem more_at (o : Nat) : ∀ (ks : List Ex) (acc : List Ex) (i f : Nat), (∀ k ∈ ks, Rds Rd Fd l k ∧ o + 2 * depthE k ≤ 256) → At l i (argK true (tkL ks) ++ [sg7 [41]]) → 4 * (argK true (tkL ks)).length + 5 ≤ f → moreP Rd Fd l f acc i o = .ok (acc ++ ks) (i + (argK true (tkL ks)).length)
  | [], acc, i, f, hk, hA, hf => by
    obtain ⟨f', rfl⟩ : ∃ f', f = f' + 1 := ⟨f - 1, by omega⟩
    rw [tkL, argK, List.nil_append] at hA
    rw [moreP, hA.sg, if_neg (by decide), tkL, argK]
    simp
  | k :: r, acc, i, f, hk, hA, hf => by
    obtain ⟨f', rfl⟩ : ∃ f', f = f' + 1 := ⟨f - 1, by omega⟩
    have e : argK true (tkL (k :: r)) = sg7 [44] :: (tkE k ++ argK true (tkL r)) := by rw [tkL, argK]; rfl
    rw [e] at hA hf ⊢
    simp only [List.length_cons, List.length_append] at hf ⊢
    have h1 := hA.sg
    have hA2 : At l (i + 1) (tkE k ++ (argK true (tkL r) ++ [sg7 [41]])) := by rw [← List.append_assoc]; exact hA.tl
    obtain ⟨hA3, hA4⟩ := hA2.app
    have hnx : sgAt l (i + 1 + (tkE k).length) = [44] ∨ sgAt l (i + 1 + (tkE k).length) = [41] := by
      cases r with
      | nil => rw [tkL, argK, List.nil_append] at hA4; exact .inr hA4.sg
      | cons k2 r2 =>
        rw [tkL, argK] at hA4
        exact .inl (At.sg (r := (tkE k2 ++ argK true (tkL r2)) ++ [sg7 [41]]) hA4)
    have hln := (hk k (by simp)).1.ln 1 (i + 1) o f' (by omega) (by omega) (by rw [show ((1 : Nat) : Int) = 1 from rfl, tkF_one]; exact hA3) (by
      rw [show ((1 : Nat) : Int) = 1 from rfl, tkF_one]
      rcases hnx with h | h
      · exact ⟨by rw [h]; decide, by rw [h]; decide, by rw [h]; decide⟩
      · exact ⟨by rw [h]; decide, by rw [h]; decide, by rw [h]; decide⟩) (hk k (by simp)).2 (by rw [show ((1 : Nat) : Int) = 1 from rfl, tkF_one]; omega)
    rw [show ((1 : Nat) : Int) = 1 from rfl, tkF_one] at hln
    rw [moreP, if_pos h1, hln]
    simp only
    rw [more_at o r (acc ++ [k]) _ f' (fun x hx => hk x (List.mem_cons_of_mem _ hx)) hA4 (by omega), List.append_assoc]
    simp only [List.cons_append, List.nil_append]
    congr 1
    omega
theorem args_at (o : Nat) (ks : List Ex) (i f : Nat) (hk : ∀ k ∈ ks, Rds Rd Fd l k ∧ o + 2 * depthE k ≤ 256) (hv : ∀ k ∈ ks, ∃ x r, tkE k = x :: r ∧ VS x) (hA : At l i (argK false (tkL ks) ++ [sg7 [41]])) (hf : 4 * (argK false (tkL ks)).length + 9 ≤ f) :
    argsP Rd Fd l f i o = .ok ks (i + (argK false (tkL ks)).length) := by
  obtain ⟨f', rfl⟩ : ∃ f', f = f' + 1 := ⟨f - 1, by omega⟩
  cases ks with
  | nil =>
    rw [tkL, argK, List.nil_append] at hA
    rw [argsP, if_pos hA.sg, tkL, argK]
    simp
  | cons k r =>
    have e : argK false (tkL (k :: r)) = tkE k ++ argK true (tkL r) := by rw [tkL, argK]; rfl
    rw [e] at hA hf ⊢
    simp only [List.length_append] at hf ⊢
    rw [List.append_assoc] at hA
    obtain ⟨hA3, hA4⟩ := hA.app
    obtain ⟨x, rr, hx, hvs⟩ := hv k (by simp)
    have hne : sgAt l i ≠ [41] := by
      have hA5 := hA3
      rw [hx] at hA5
      rcases hvs with h | h | h | h
      · rw [hA5.nosg (by omega)]; decide
      · rw [h] at hA5; rw [hA5.sg]; decide
      · rw [h] at hA5; rw [hA5.sg]; decide
      · rw [h] at hA5; rw [hA5.sg]; decide
    have hnx : sgAt l (i + (tkE k).length) = [44] ∨ sgAt l (i + (tkE k).length) = [41] := by
      cases r with
      | nil => rw [tkL, argK, List.nil_append] at hA4; exact .inr hA4.sg
      | cons k2 r2 =>
        rw [tkL, argK] at hA4
        exact .inl (At.sg (r := (tkE k2 ++ argK true (tkL r2)) ++ [sg7 [41]]) hA4)
    have hln := (hk k (by simp)).1.ln 1 i o f' (by omega) (by omega) (by rw [show ((1 : Nat) : Int) = 1 from rfl, tkF_one]; exact hA3) (by
      rw [show ((1 : Nat) : Int) = 1 from rfl, tkF_one]
      rcases hnx with h | h
      · exact ⟨by rw [h]; decide, by rw [h]; decide, by rw [h]; decide⟩
      · exact ⟨by rw [h]; decide, by rw [h]; decide, by rw [h]; decide⟩) (hk k (by simp)).2 (by rw [show ((1 : Nat) : Int) = 1 from rfl, tkF_one]; omega)
    rw [show ((1 : Nat) : Int) = 1 from rfl, tkF_one] at hln
    rw [argsP, if_neg hne, hln]
    simp only
    rw [more_at o r [k] _ f' (fun x hx => hk x (List.mem_cons_of_mem _ hx)) hA4 (by omega)]
    simp only [List.cons_append, List.nil_append]
    congr 1
    omega
theorem num_itoa (n : Int) (h : 0 ≤ n) : numOf (Lib.itoa n) = n := by
  obtain ⟨u, rfl⟩ : ∃ u : Nat, n = u := ⟨n.toNat, by omega⟩
  rw [itoa_pos]
  have key : ∀ (L : List UInt8) (a : Nat), dgs L = true → L.foldl (fun (n : Int) c => 10 * n + ((c.toNat : Int) - 48)) (a : Int) = ((L.foldl (fun a c => a * 10 + (c.toNat - 48)) a : Nat) : Int) := by
    intro L
    induction L with
    | nil => intro a _; rfl
    | cons c r ih =>
      intro a hd
      simp only [dgs, List.all_cons, Bool.and_eq_true] at hd
      have hc := hd.1
      simp only [dig, Bool.and_eq_true, decide_eq_true_eq] at hc
      simp only [List.foldl_cons]
      rw [← ih (a * 10 + (c.toNat - 48)) hd.2]
      congr 1
      omega
  have := key (Lib.decDigits u) 0 (dgs_dec u)
  unfold numOf
  rw [show ((0 : Int)) = ((0 : Nat) : Int) from rfl, this]
  have hv := val_dec u
  unfold val at hv
  rw [hv]
theorem own_leaf (G : Gr Rd Fd) {nd : Nd} {ks : List Ex} (h : toldB nd ks.length = true) (h7 : nd.kind ≠ 7) (h8 : nd.kind ≠ 8) (h9 : nd.kind ≠ 9) : Own Rd Fd l (.mk nd ks) := by
  have e : tkE (.mk nd ks) = leafK nd := by rw [tkE_mk]; unfold nodeK; rw [if_neg h7, if_neg h8, if_neg h9]
  have hv : lv nd = 8 := by unfold lv; rw [if_neg h8, if_neg h7]
  refine own_single hv (by rw [e]; unfold leafK; repeat' split
                           all_goals simp) ?_
  intro i o f hA hc ho hf
  obtain ⟨f', rfl⟩ : ∃ f', f = f' + 1 := ⟨f - 1, by omega⟩
  rw [e] at hA hc hf ⊢
  clear hf ho e hv
  rcases told_kind h with k | k | k | k | k | k | k | k | k
  · obtain ⟨en, hn, hl⟩ := shape1 h k
    have ee : leafK nd = [(1, Lib.itoa nd.num)] := by unfold leafK; rw [if_pos k]
    rw [ee] at hA ⊢
    obtain ⟨a1, a2, _⟩ := hA.hd
    refine ⟨?_, by rw [hA.nosg (by simp)]; rfl⟩
    rw [primP, a1]
    simp only
    rw [a2, num_itoa _ hn, List.eq_nil_of_length_eq_zero hl, en]
    rfl
  · obtain ⟨en, hl⟩ := shape2 h k
    have ee : leafK nd = [(2, nd.text.data.toList)] := by unfold leafK; rw [if_neg (by omega), if_pos k]
    rw [ee] at hA ⊢
    obtain ⟨a1, a2, _⟩ := hA.hd
    refine ⟨?_, by rw [hA.nosg (by simp)]; rfl⟩
    rw [primP, a1]
    simp only
    rw [a2, List.eq_nil_of_length_eq_zero hl, en]
    rfl
  · obtain ⟨en, hn, hl⟩ := shape3 h k
    have ee : leafK nd = [(5, if nd.num = 1 then [84, 82, 85, 69] else [70, 65, 76, 83, 69])] := by unfold leafK; rw [if_neg (by omega), if_neg (by omega), if_pos k]
    rw [ee] at hA ⊢
    obtain ⟨a1, a2, _⟩ := hA.hd
    refine ⟨?_, by rw [hA.nosg (by simp)]; rfl⟩
    rw [primP, a1]
    simp only
    rw [a2, List.eq_nil_of_length_eq_zero hl, en]
    rcases hn with hn | hn
    · rw [hn]; rfl
    · rw [hn]; rfl
  · obtain ⟨en, hn, hl⟩ := shape4 h k
    have ee : leafK nd = [(6, errL nd.num)] := by unfold leafK; rw [if_neg (by omega), if_neg (by omega), if_neg (by omega), if_pos k]
    rw [ee] at hA ⊢
    obtain ⟨a1, a2, _⟩ := hA.hd
    refine ⟨?_, by rw [hA.nosg (by simp)]; rfl⟩
    rw [primP, a1]
    simp only
    rw [a2, List.eq_nil_of_length_eq_zero hl, en]
    have hx : errOf (errL nd.num) = nd.num := by
      rcases (show nd.num = 1 ∨ nd.num = 2 ∨ nd.num = 3 ∨ nd.num = 4 ∨ nd.num = 5 ∨ nd.num = 6 by omega) with h | h | h | h | h | h
      all_goals rw [h]; decide
    rw [hx]
    rfl
  · obtain ⟨en, hn, hl⟩ := shape5 h k
    have ee : leafK nd = [(3, rfT nd.ref)] := by unfold leafK; rw [if_neg (by omega), if_neg (by omega), if_neg (by omega), if_neg (by omega), if_neg (by omega)]
    rw [ee] at hA hc ⊢
    obtain ⟨a1, a2, _⟩ := hA.hd
    refine ⟨?_, by rw [hA.nosg (by simp)]; rfl⟩
    rw [primP, a1]
    simp only
    unfold refP
    rw [if_neg (by exact hc), a2, G.ref _ hn, List.eq_nil_of_length_eq_zero hl, en]
    rfl
  · obtain ⟨en, hn, hm, hl⟩ := shape6 h k
    have ee : leafK nd = [(3, rfT nd.ref), sg7 [58], (3, rfT nd.to)] := by unfold leafK; rw [if_neg (by omega), if_neg (by omega), if_neg (by omega), if_neg (by omega), if_pos k]
    rw [ee] at hA hc ⊢
    obtain ⟨a1, a2, _⟩ := hA.hd
    obtain ⟨b1, b2, _⟩ := hA.tl.tl.hd
    refine ⟨?_, by rw [hA.nosg (by simp)]; rfl⟩
    rw [primP, a1]
    simp only
    unfold refP
    rw [if_pos hA.tl.sg, if_pos b1, a2, b2, G.ref _ hn, G.ref _ hm, List.eq_nil_of_length_eq_zero hl, en]
    rfl
  · exact absurd k h7
  · exact absurd k h8
  · exact absurd k h9
theorem own_call (G : Gr Rd Fd) {f : Int} {ks : List Ex} (h : takesB f ks.length = true) (hk : ∀ k ∈ ks, Rds Rd Fd l k) (hv : ∀ k ∈ ks, ∃ x r, tkE k = x :: r ∧ VS x) : Own Rd Fd l (callX f ks) := by
  have e : tkE (callX f ks) = (4, nameL f) :: sg7 [40] :: (argK false (tkL ks) ++ [sg7 [41]]) := by
    unfold callX
    rw [tkE]
    rfl
  refine own_single rfl (by rw [e]; simp) ?_
  intro i o g hA hc ho hg
  obtain ⟨g', rfl⟩ : ∃ g', g = g' + 1 := ⟨g - 1, by omega⟩
  have hd : depthE (callX f ks) = 1 + depthL ks := by unfold callX; rw [depthE]
  rw [e] at hA hg ⊢
  rw [hd] at ho
  simp only [List.length_cons, List.length_append, List.length_nil] at hg ⊢
  obtain ⟨a1, a2, _⟩ := hA.hd
  obtain ⟨mn, mx, hF, hm1, hm2⟩ := G.fn f ks.length h
  refine ⟨?_, by rw [hA.nosg (by simp)]; rfl⟩
  obtain ⟨hA3, hA4⟩ := hA.tl.tl.app
  rw [primP, a1]
  simp only
  rw [a2, hF]
  simp only
  rw [if_pos hA.tl.sg, if_neg (by omega), args_at (o + 1) ks (i + 2) g' (fun k hk' => ⟨hk k hk', by have := depth_mem hk'; omega⟩) hv hA.tl.tl (by omega)]
  simp only
  rw [if_pos (show sgAt l (i + 2 + (argK false (tkL ks)).length) = [41] from hA4.sg), if_pos ⟨hm1, hm2⟩]
  congr 1
  omega
/-- The grammar reads every tree that may be. -/
theorem rds_all (G : Gr Rd Fd) : ∀ t : Ex, allE t = true → Own Rd Fd l t := by
  refine Ex.ind fun nd ks ih => ?_
  intro h
  have h' := h
  rw [allE, Bool.and_eq_true] at h
  by_cases h7 : nd.kind = 7
  · obtain ⟨en, h1, h3, hlen⟩ := shape7 h.1 h7
    obtain ⟨k, rfl⟩ := List.length_eq_one_iff.1 hlen
    have hk := (ih k (by simp) (all_kid h.2 (by simp))).rds
    rw [en]
    rcases (show nd.op = 1 ∨ nd.op = 2 ∨ nd.op = 3 by omega) with e | e | e
    · rw [e]; exact own_sign (.inl rfl) hk
    · rw [e]; exact own_sign (.inr rfl) hk
    · rw [e]
      refine own_perc hk ?_
      obtain ⟨x, r, e, _⟩ := frK_vs 7 (tkE k) (lv k.nd) (tkE_vs k (all_kid h.2 (by simp)))
      show 1 ≤ (frK 7 (tkE k, lv k.nd)).length
      rw [e]; simp
  by_cases h8 : nd.kind = 8
  · obtain ⟨en, h1, h3, hlen⟩ := shape8 h.1 h8
    obtain ⟨k, j, rfl⟩ := len_two hlen
    rw [en]
    refine own_bin ⟨h1, h3⟩ (ih k (by simp) (all_kid h.2 (by simp))).rds (ih j (by simp) (all_kid h.2 (by simp))).rds ?_
    obtain ⟨x, r, e, _⟩ := frK_vs (lvB nd.op) (tkE k) (lv k.nd) (tkE_vs k (all_kid h.2 (by simp)))
    show 1 ≤ (frK (lvB nd.op) (tkE k, lv k.nd)).length
    rw [e]; simp
  by_cases h9 : nd.kind = 9
  · obtain ⟨en, ht⟩ := shape9 h.1 h9
    rw [en]
    exact own_call G ht (fun k hk => (ih k hk (all_kid h.2 hk)).rds) (fun k hk => tkE_vs k (all_kid h.2 hk))
  exact own_leaf G h.1 h7 h8 h9
end
/-- A tree's words, and the end behind them. -/
def wdsE (t : Ex) : List Wd := (tkE t).map (fun k => ⟨k.1, k.2, 0⟩) ++ [⟨0, [], 0⟩]
theorem form_at {Rd : List UInt8 → Option Rf} {Fd : List UInt8 → Option (Int × Int × Int)} (G : Gr Rd Fd) {l : List Wd} {t : Ex} (ha : allE t = true) (hd : depthE t ≤ 64) (hA : At l 0 (tkE t ++ [(0, [])])) : formP Rd Fd l = .ok t (tkE t).length := by
  obtain ⟨hA1, hA2⟩ := hA.app
  have hk := hA2.hd
  have hs := hA2.nosg (by simp)
  simp only [Nat.zero_add] at hk hs
  have hl : (tkE t).length < l.length := hk.2.2
  have := (rds_all (l := l) G t ha).cl 1 0 0 (8 * l.length + 16) (by omega) (by omega) (by have := lv_pos t.nd; omega) hA1 ⟨by rw [Nat.zero_add, hs]; decide, by rw [Nat.zero_add, hs]; decide, by rw [Nat.zero_add, hs]; decide⟩ (by omega) (by omega)
  unfold formP
  rw [this]
  simp only [Nat.zero_add]
  rw [if_pos hk.1]
/-- Trees with the same words are the same. -/
theorem tk_inj {Rd : List UInt8 → Option Rf} {Fd : List UInt8 → Option (Int × Int × Int)} (G : Gr Rd Fd) {t u : Ex} (ht : allE t = true) (hdt : depthE t ≤ 64) (hu : allE u = true) (hdu : depthE u ≤ 64) (h : tkE t = tkE u) : t = u := by
  have hA : ∀ t : Ex, At (wdsE t) 0 (tkE t ++ [(0, [])]) := by
    intro t
    refine ⟨[], ?_⟩
    unfold wdsE
    rw [List.append_nil, List.drop_zero, List.map_append, List.map_map]
    have : (kt ∘ fun k : Tk => (⟨k.1, k.2, 0⟩ : Wd)) = id := rfl
    rw [this, List.map_id]
    rfl
  have h1 := form_at G ht hdt (hA t)
  have h2 := form_at G hu hdu (hA u)
  have : wdsE t = wdsE u := by unfold wdsE; rw [h]
  rw [this, h2] at h1
  injection h1 with h1 _
  exact h1.symm
end Go.Proofs.YtdlomdbmmhjppaaGreatDoor.T9
namespace Go.Proofs.YtdlomdbmmhjppaaGreatDoor.T9
open Go.RowKit
set_option linter.unusedVariables false

/-- A word is cut off, whatever follows of this kind. -/
structure Lx (R : List UInt8 → Bool) (x : Tk) (rest : List UInt8) : Prop where
  tk : tok R (tb x ++ rest) = .ok x.1 x.2 (tb x).length
  bl : bl (tb x ++ rest) = 0
/-- What may follow a value. -/
def NR (l : List UInt8) : Prop := l = [] ∨ ∃ c r, l = c :: r ∧ isRun c = false ∧ c ≠ 40 ∧ c ≠ 34
/-- What follows a sign of one byte. -/
def NS (l : List UInt8) : Prop := ∃ c r, l = c :: r ∧ c ≠ 61 ∧ c ≠ 62
def LexB (R : List UInt8 → Bool) : List Tk → List UInt8 → Prop
  | [], _ => True
  | x :: r, rest => Lx R x (flat r ++ rest) ∧ LexB R r rest
theorem LexB.app {R : List UInt8 → Bool} : ∀ {a b : List Tk} {rest : List UInt8}, LexB R a (flat b ++ rest) → LexB R b rest → LexB R (a ++ b) rest
  | [], b, rest, _, h => h
  | x :: r, b, rest, h, h' => ⟨by show Lx R x (flat (r ++ b) ++ rest); rw [flat_app, List.append_assoc]; exact h.1, LexB.app h.2 h'⟩
def wordsAt : Nat → List Tk → List Wd
  | _, [] => []
  | i, x :: r => ⟨x.1, x.2, i⟩ :: wordsAt (i + (tb x).length) r
theorem words_kt : ∀ (ts : List Tk) (i : Nat), (wordsAt i ts).map kt = ts
  | [], i => rfl
  | x :: r, i => by rw [wordsAt, List.map_cons, words_kt r]; rfl
theorem cut_all (R : List UInt8 → Bool) : ∀ (ts : List Tk) (i : Nat) (acc : List Wd), LexB R ts [] → cutA R (flat ts) i acc = .ok (acc ++ wordsAt i ts)
  | [], i, acc, _ => by rw [flat_nil, wordsAt, List.append_nil]; rfl
  | x :: r, i, acc, h => by
    have h1 := h.1
    rw [List.append_nil] at h1
    rw [flat_cons, cut_word R h1.bl h1.tk, List.drop_left, cut_all R r _ _ h.2, wordsAt, List.append_assoc]
    rfl
theorem lex_inj {R : List UInt8 → Bool} {a b : List Tk} (ha : LexB R a []) (hb : LexB R b []) (h : flat a = flat b) : a = b := by
  have h1 := cut_all R a 0 [] ha
  have h2 := cut_all R b 0 [] hb
  rw [h, h2] at h1
  injection h1 with h1
  simp only [List.nil_append] at h1
  rw [← words_kt a 0, ← words_kt b 0, h1]
theorem run_app {r rest : List UInt8} (h : ∀ c ∈ r, isRun c = true) (hn : rest = [] ∨ ∃ c l, rest = c :: l ∧ isRun c = false) : runOf (r ++ rest) = r := by
  unfold runOf
  rw [List.takeWhile_append_of_pos h]
  rcases hn with rfl | ⟨c, l, rfl, hc⟩
  · simp
  · rw [List.takeWhile_cons, hc]; simp
theorem bl_of {c : UInt8} {r : List UInt8} (h : ¬ (c = 9 ∨ c = 10 ∨ c = 13 ∨ c = 32)) (h2 : c ≠ 194) (h3 : c ≠ 227) : bl (c :: r) = 0 := by
  rw [Go.Proofs.YtdlomdbmmhjppaaGreatDoor.bl, if_neg h, if_neg (fun e => h2 e.1), if_neg (fun e => h3 e.1)]
theorem bl_small {c : UInt8} {r : List UInt8} (h : 33 ≤ c.toNat) (h' : c.toNat < 128) : bl (c :: r) = 0 := by
  refine bl_of ?_ ?_ ?_
  · rintro (rfl | rfl | rfl | rfl)
    all_goals (simp at h)
  · rintro rfl; simp at h'
  · rintro rfl; simp at h'
theorem run_small {c : UInt8} (h : isRun c = true) : 33 ≤ c.toNat ∧ c.toNat < 128 := by
  unfold isRun dig isC isS at h
  simp only [Bool.or_eq_true, Bool.and_eq_true, decide_eq_true_eq, beq_iff_eq] at h
  rcases h with h | h | h | h | h
  · omega
  · omega
  · omega
  · rw [h]; decide
  · rw [h]; decide
/-- A run of letters, digits and signs of a reference. -/
theorem lx_run {R : List UInt8 → Bool} {k : Nat} {s rest : List UInt8} (hk : k ≠ 2) {c : UInt8} {r : List UInt8} (hs : s = c :: r) (hr : ∀ x ∈ s, isRun x = true) (hn : rest = [] ∨ ∃ c l, rest = c :: l ∧ isRun c = false) (ht : runTok R s (callsL rest) = .ok k s s.length) : Lx R (k, s) rest := by
  have e : tb (k, s) = s := by unfold tb; rw [if_neg hk]
  have hc : isRun c = true := hr c (by rw [hs]; simp)
  have e2 := run_app hr hn
  refine ⟨?_, ?_⟩
  · rw [e]
    have e3 : s ++ rest = c :: (r ++ rest) := by rw [hs]; rfl
    unfold tok
    rw [e3]
    simp only
    rw [if_pos hc, ← e3, e2, List.drop_left]
    exact ht
  · rw [e, hs]
    exact bl_small (run_small hc).1 (run_small hc).2
theorem nr_run {rest : List UInt8} (h : NR rest) : rest = [] ∨ ∃ c l, rest = c :: l ∧ isRun c = false := by
  rcases h with h | ⟨c, r, e, h1, _⟩
  · exact .inl h
  · exact .inr ⟨c, r, e, h1⟩
theorem nr_calls {rest : List UInt8} (h : NR rest) : callsL rest = false := by
  rcases h with rfl | ⟨c, r, rfl, _, h2, _⟩
  · rfl
  · show ([40] : List UInt8).isPrefixOf (c :: r) = false
    simp [List.isPrefixOf, Ne.symm h2]
theorem dig_run {c : UInt8} (h : dig c = true) : isRun c = true := by unfold isRun; rw [h]; rfl
theorem lx_num {R : List UInt8 → Bool} {n : Int} (h0 : 0 ≤ n) (h1 : n ≤ 9223372036854775807) {rest : List UInt8} (h : NR rest) : Lx R (1, Lib.itoa n) rest := by
  obtain ⟨u, rfl⟩ : ∃ u : Nat, n = u := ⟨n.toNat, by omega⟩
  rw [itoa_pos]
  have hd := dgs_dec u
  have hall : ∀ x ∈ Lib.decDigits u, dig x = true := by unfold dgs at hd; exact List.all_eq_true.1 hd
  obtain ⟨c, r, hcr⟩ : ∃ c r, Lib.decDigits u = c :: r := by
    have := dec_pos u
    cases hx : Lib.decDigits u with
    | nil => rw [hx] at this; simp at this
    | cons c r => exact ⟨c, r, rfl⟩
  refine lx_run (by decide) hcr (fun x hx => dig_run (hall x hx)) (nr_run h) ?_
  have ht : trim0 (Lib.decDigits u) = Lib.decDigits u := by
    unfold trim0
    by_cases hu : u = 0
    · subst hu
      rw [dec_small (by omega)]; rfl
    · obtain ⟨c', r', e', hc'⟩ := dec_lead u (by omega)
      have hdw : (Lib.decDigits u).dropWhile (· == 48) = Lib.decDigits u := by
        rw [e', List.dropWhile_cons]
        have : (c' == 48) = false := by simpa using hc'
        rw [this]; rfl
      rw [hdw, e']
      rfl
  unfold runTok
  rw [show (Lib.decDigits u).head?.map dig = some true by rw [hcr]; simp [hall c (by rw [hcr]; simp)]]
  simp only [Option.getD_some, if_true]
  unfold numTok
  rw [if_pos hd, ht, val_dec, if_pos (by omega)]
theorem upp_caps : ∀ {l : List UInt8}, (∀ c ∈ l, isS c = false) → upp l = l
  | [], _ => rfl
  | c :: r, h => by
    have hc := h c (by simp)
    have e : Lib.upperB c = c := by
      unfold isS at hc
      unfold Lib.upperB
      split
      · rename_i q
        exfalso
        unfold Lib.isLowerB at q
        simp only [Bool.and_eq_true, decide_eq_true_eq, Bool.and_eq_false_iff, decide_eq_false_iff_not] at q hc
        have h1 : 97 ≤ c.toNat := UInt8.le_iff_toNat_le.1 q.1
        have h2 : c.toNat ≤ 122 := UInt8.le_iff_toNat_le.1 q.2
        omega
      · rfl
    show Lib.upperB c :: upp r = c :: r
    rw [e, upp_caps (fun x hx => h x (List.mem_cons_of_mem _ hx))]
theorem lx_tru {R : List UInt8 → Bool} {b : Bool} {rest : List UInt8} (h : NR rest) : Lx R (5, if b then [84, 82, 85, 69] else [70, 65, 76, 83, 69]) rest := by
  cases b
  · refine lx_run (by decide) (c := 70) (r := [65, 76, 83, 69]) rfl (by decide) (nr_run h) ?_
    rw [nr_calls h]
    rfl
  · refine lx_run (by decide) (c := 84) (r := [82, 85, 69]) rfl (by decide) (nr_run h) ?_
    rw [nr_calls h]
    rfl
/-- A function's name is of capitals and digits, a capital first. -/
def nameB (l : List UInt8) : Bool := match l with | [] => false | c :: r => isC c && (c :: r).all fun x => isC x || dig x
theorem names_ok : tab.all (fun r => nameB r.1.data.toList) = true := by decide +kernel
theorem name_ok {f : Int} (h : 1 ≤ f ∧ f ≤ 76) : nameB (nameL f) = true := by
  unfold nameL rowOf
  rw [if_pos h, List.getElem?_eq_getElem (by rw [tab_len]; omega)]
  exact List.all_eq_true.1 names_ok _ (List.getElem_mem _)
theorem isC_not {c : UInt8} (h : isC c = true) : dig c = false ∧ isS c = false ∧ isL c = true := by
  unfold isC at h
  simp only [Bool.and_eq_true, decide_eq_true_eq] at h
  refine ⟨?_, ?_, ?_⟩
  · unfold dig; simp; omega
  · unfold isS; simp; omega
  · unfold isL isC; simp; omega
theorem dig_not {c : UInt8} (h : dig c = true) : isS c = false := by
  unfold dig at h
  simp only [Bool.and_eq_true, decide_eq_true_eq] at h
  unfold isS; simp; omega
theorem lx_name {R : List UInt8 → Bool} {s : List UInt8} (hs : nameB s = true) {rest : List UInt8} : Lx R (4, s) (40 :: rest) := by
  cases s with
  | nil => cases hs
  | cons c r =>
    unfold nameB at hs
    simp only [Bool.and_eq_true, List.all_eq_true, Bool.or_eq_true] at hs
    obtain ⟨hc, hall⟩ := hs
    refine lx_run (by decide) (c := c) (r := r) rfl (fun x hx => ?_) (.inr ⟨40, rest, rfl, by decide⟩) ?_
    · unfold isRun
      rcases hall x hx with h | h
      · rw [h]; simp
      · rw [h]; rfl
    · have hu : upp (c :: r) = c :: r := upp_caps (fun x hx => by rcases hall x hx with h | h; exact (isC_not h).2.1; exact dig_not h)
      have hp : plainN (c :: r) = true := by
        unfold plainN
        rw [List.all_eq_true]
        intro x hx
        rcases hall x hx with h | h
        · rw [(isC_not h).2.2]; rfl
        · rw [h]; simp
      unfold runTok
      simp only [List.head?_cons, Option.map_some, Option.getD_some, (isC_not hc).1]
      rw [if_neg (by decide)]
      unfold namTok
      have hcall : callsL (40 :: rest) = true := rfl
      rw [hcall]
      simp only [Bool.not_true, Bool.false_and, Bool.true_and, hp, hu]
      rfl
theorem txt_qt : ∀ (l : List UInt8) (rest : List UInt8), (rest = [] ∨ ∃ c r, rest = c :: r ∧ c ≠ 34) → Go.Proofs.YtdlomdbmmhjppaaGreatDoor.txt (qt l ++ 34 :: rest) = some (l, (qt l).length + 1)
  | [], rest, h => by
    rcases h with rfl | ⟨c, r, rfl, hc⟩
    · rfl
    · show Go.Proofs.YtdlomdbmmhjppaaGreatDoor.txt (34 :: c :: r) = _
      rw [Go.Proofs.YtdlomdbmmhjppaaGreatDoor.txt, if_pos rfl, if_neg hc]; rfl
  | x :: l, rest, h => by
    have ih := txt_qt l rest h
    rw [qt_cons]
    by_cases hx : x = 34
    · subst hx
      rw [if_pos rfl]
      show Go.Proofs.YtdlomdbmmhjppaaGreatDoor.txt (34 :: 34 :: (qt l ++ 34 :: rest)) = _
      rw [Go.Proofs.YtdlomdbmmhjppaaGreatDoor.txt, if_pos rfl, if_pos rfl, ih]
      simp
    · rw [if_neg hx]
      obtain ⟨d, r, hd⟩ : ∃ d r, qt l ++ 34 :: rest = d :: r := by
        cases hq : qt l with
        | nil => exact ⟨34, rest, rfl⟩
        | cons d r => exact ⟨d, r ++ 34 :: rest, rfl⟩
      show Go.Proofs.YtdlomdbmmhjppaaGreatDoor.txt (x :: (qt l ++ 34 :: rest)) = _
      rw [hd, Go.Proofs.YtdlomdbmmhjppaaGreatDoor.txt, if_neg hx, ← hd, ih]
      simp
theorem lx_text {R : List UInt8 → Bool} {s rest : List UInt8} (h : NR rest) : Lx R (2, s) rest := by
  have e : tb (2, s) = 34 :: (qt s ++ [34]) := rfl
  refine ⟨?_, by rw [e]; exact bl_small (by decide) (by decide)⟩
  have e2 : tb (2, s) ++ rest = 34 :: (qt s ++ 34 :: rest) := by rw [e]; simp
  rw [e2]
  unfold tok
  simp only
  rw [if_neg (by decide), if_pos trivial]
  unfold txtTok
  rw [txt_qt s rest (by rcases h with h | ⟨c, r, e, _, _, h3⟩; exact .inl h; exact .inr ⟨c, r, e, h3⟩)]
  simp only
  rw [e]
  simp
theorem lx_err {R : List UInt8 → Bool} {n : Int} (h : 1 ≤ n ∧ n ≤ 6) {rest : List UInt8} : Lx R (6, errL n) rest := by
  rcases (show n = 1 ∨ n = 2 ∨ n = 3 ∨ n = 4 ∨ n = 5 ∨ n = 6 by omega) with rfl | rfl | rfl | rfl | rfl | rfl
  all_goals exact ⟨rfl, bl_small (by decide) (by decide)⟩
/-- Signs that end wherever they end. -/
theorem lx_sign {R : List UInt8 → Bool} {s rest : List UInt8} (h : s ∈ [[60, 62], [60, 61], [62, 61], [40], [41], [44], [58], [94], [42], [47], [43], [45], [38], [61], [37]]) : Lx R (sg7 s) rest := by
  simp only [List.mem_cons, List.mem_nil_iff, or_false] at h
  rcases h with rfl | rfl | rfl | rfl | rfl | rfl | rfl | rfl | rfl | rfl | rfl | rfl | rfl | rfl | rfl
  all_goals exact ⟨rfl, bl_small (by decide) (by decide)⟩
theorem lx_less {R : List UInt8 → Bool} {rest : List UInt8} (h : NS rest) : Lx R (sg7 [60]) rest ∧ Lx R (sg7 [62]) rest := by
  obtain ⟨c, r, rfl, h1, h2⟩ := h
  have n1 : ((61 : UInt8) == c) = false := by simpa using Ne.symm h1
  have n2 : ((62 : UInt8) == c) = false := by simpa using Ne.symm h2
  refine ⟨⟨?_, bl_small (by decide) (by decide)⟩, ⟨?_, bl_small (by decide) (by decide)⟩⟩
  · show tok R (60 :: c :: r) = _
    unfold tok
    simp only
    rw [if_neg (by decide), if_neg (by decide)]
    simp [spTok, spFind, spelts, Lib.hasPrefix, List.isPrefixOf, n1, n2, spKind, sg7, tb]
  · show tok R (62 :: c :: r) = _
    unfold tok
    simp only
    rw [if_neg (by decide), if_neg (by decide)]
    simp [spTok, spFind, spelts, Lib.hasPrefix, List.isPrefixOf, n1, n2, spKind, sg7, tb]
theorem lx_op {R : List UInt8 → Bool} {op : Int} (h : 1 ≤ op ∧ op ≤ 12) {rest : List UInt8} (hr : NS rest) : Lx R (sg7 (sgB op)) rest := by
  rcases op_cases h with rfl | rfl | rfl | rfl | rfl | rfl | rfl | rfl | rfl | rfl | rfl | rfl
  case inr.inr.inr.inr.inr.inr.inr.inr.inl => exact (lx_less hr).1
  case inr.inr.inr.inr.inr.inr.inr.inr.inr.inr.inl => exact (lx_less hr).2
  all_goals exact lx_sign (by decide)
theorem nr_of {c : UInt8} {r : List UInt8} (h : isRun c = false) (h1 : c ≠ 40) (h2 : c ≠ 34) : NR (c :: r) := .inr ⟨c, r, rfl, h, h1, h2⟩
theorem nr_op {op : Int} (h : 1 ≤ op ∧ op ≤ 12) (rest : List UInt8) : NR (sgB op ++ rest) := by
  rcases op_cases h with rfl | rfl | rfl | rfl | rfl | rfl | rfl | rfl | rfl | rfl | rfl | rfl
  all_goals exact nr_of (by decide) (by decide) (by decide)
/-- A reference's text: signs of a run, the first no digit, the last one. -/
theorem itoa_nonempty (n : Nat) : ∃ c r, Lib.itoa (n : Int) = r ++ [c] ∧ ∀ x ∈ Lib.itoa (n : Int), dig x = true := by
  rw [itoa_pos]
  have hd := dgs_dec n
  have hp := dec_pos n
  have hne : Lib.decDigits n ≠ [] := by intro e; rw [e] at hp; simp at hp
  exact ⟨_, _, (List.dropLast_concat_getLast hne).symm, List.all_eq_true.1 hd⟩
theorem let_ok (c : Nat) (h : c < 702) : (letB c).data.toList ≠ [] ∧ ∀ x ∈ (letB c).data.toList, isC x = true := by
  unfold letB
  split
  · rename_i hc
    refine ⟨by simp [b1], fun x hx => ?_⟩
    have e : x = UInt8.ofNat (65 + c % 26 : Int).toNat := by simpa [b1] using hx
    have hn : (65 + (c : Int) % 26).toNat = 65 + c % 26 := by omega
    rw [e]
    show isC (UInt8.ofNat (65 + (c : Int) % 26).toNat) = true
    rw [hn]
    unfold isC
    rw [UInt8.toNat_ofNat']
    simp; omega
  · rename_i hc
    refine ⟨by simp [b2], fun x hx => ?_⟩
    have e : x = UInt8.ofNat (65 + (c : Int) / 26 - 1).toNat ∨ x = UInt8.ofNat (65 + (c : Int) % 26).toNat := by simpa [b2] using hx
    rcases e with e | e
    · have hn : (65 + (c : Int) / 26 - 1).toNat = 65 + c / 26 - 1 := by omega
      rw [e, hn]
      unfold isC
      rw [UInt8.toNat_ofNat']
      simp; omega
    · have hn : (65 + (c : Int) % 26).toNat = 65 + c % 26 := by omega
      rw [e, hn]
      unfold isC
      rw [UInt8.toNat_ofNat']
      simp; omega
def pinL (p : Bool) : List UInt8 := if p then [36] else []
theorem rfT_parts (r : Rf) : rfT r = pinL r.pc ++ (letB r.col.toNat).data.toList ++ pinL r.pr ++ Lib.itoa ((r.row.toNat + 1 : Nat) : Int) := by
  unfold rfT refB
  have ap : ∀ a b : ByteArray, (a ++ b).data.toList = a.data.toList ++ b.data.toList := fun a b => by simp [ByteArray.data_append]
  have pp : ∀ p, (pinB p).data.toList = pinL p := fun p => by cases p <;> rfl
  rw [ap, ap, ap, pp, pp, numeral_data]
  rfl
theorem lx_ref {R : List UInt8 → Bool} {r : Rf} (hm : mayB r.row r.col = true) (hR : R (rfT r) = true) {rest : List UInt8} (h : NR rest) : Lx R (3, rfT r) rest := by
  have hm := of_decide_eq_true hm
  have hp := rfT_parts r
  obtain ⟨hl1, hl2⟩ := let_ok r.col.toNat (by omega)
  obtain ⟨cl, rl, hi1, hi2⟩ := itoa_nonempty (r.row.toNat + 1)
  generalize (letB r.col.toNat).data.toList = LL at *
  generalize Lib.itoa ((r.row.toNat + 1 : Nat) : Int) = II at *
  have hrun : ∀ x ∈ rfT r, isRun x = true := by
    intro x hx
    rw [hp] at hx
    simp only [List.mem_append] at hx
    have pin : ∀ p, x ∈ pinL p → isRun x = true := fun p hx => by cases p <;> simp [pinL] at hx; rw [hx]; decide
    rcases hx with ((hx | hx) | hx) | hx
    · exact pin _ hx
    · unfold isRun; rw [hl2 x hx]; simp
    · exact pin _ hx
    · exact dig_run (hi2 x hx)
  obtain ⟨c, t, hct, hdc⟩ : ∃ c t, rfT r = c :: t ∧ dig c = false := by
    rw [hp]
    cases r.pc
    · cases LL with
      | nil => exact absurd rfl hl1
      | cons c t => exact ⟨c, _, rfl, (isC_not (hl2 c (by simp))).1⟩
    · exact ⟨36, _, rfl, by decide⟩
  refine lx_run (by decide) hct hrun (nr_run h) ?_
  have hlast : ∀ s : List UInt8, (∀ x ∈ s, dig x = false) → upp (rfT r) ≠ s := by
    intro s hs e
    have hx : Lib.upperB cl ∈ upp (rfT r) := by
      unfold upp
      refine List.mem_map.2 ⟨cl, ?_, rfl⟩
      rw [hp, hi1]; simp
    have hcl := hi2 cl (by rw [hi1]; simp)
    have hup : Lib.upperB cl = cl := by
      have := upp_caps (l := [cl]) (fun x hx => by rw [List.mem_singleton.1 hx]; exact dig_not hcl)
      simpa [upp] using this
    rw [e, hup] at hx
    rw [hs cl hx] at hcl
    cases hcl
  unfold runTok
  rw [show (rfT r).head?.map dig = some false by rw [hct]; simp [hdc]]
  simp only [Option.getD_some]
  rw [if_neg (by decide), nr_calls h]
  unfold namTok
  have h1 : (upp (rfT r) == truL) = false := by rw [beq_eq_false_iff_ne]; exact hlast _ (by decide)
  have h2 : (upp (rfT r) == falL) = false := by rw [beq_eq_false_iff_ne]; exact hlast _ (by decide)
  rw [h1, h2, hR]
  rfl
end Go.Proofs.YtdlomdbmmhjppaaGreatDoor.T9
namespace Go.Proofs.YtdlomdbmmhjppaaGreatDoor.T9
open Go.RowKit
set_option linter.unusedVariables false

/-- Every reference on the grid is one. -/
def RefOk (R : List UInt8 → Bool) : Prop := ∀ r : Rf, mayB r.row r.col = true → R (rfT r) = true
theorem ns_app {a b : List UInt8} (h : NS a) : NS (a ++ b) := by
  obtain ⟨c, r, rfl, h1, h2⟩ := h
  exact ⟨c, r ++ b, rfl, h1, h2⟩
theorem ns_fr (n : Int) (l : List UInt8) (m : Int) (h : NS l) : NS (fr n (l, m)) := by
  unfold fr
  split
  · exact ⟨40, l ++ [41], rfl, by decide, by decide⟩
  · exact h
theorem run_ns {c : UInt8} {r : List UInt8} (h : isRun c = true) : NS (c :: r) := ⟨c, r, rfl, by rintro rfl; revert h; decide, by rintro rfl; revert h; decide⟩
theorem ns_itoa (n : Nat) : NS (Lib.itoa (n : Int)) := by
  rw [itoa_pos]
  have hd := dgs_dec n
  have hp := dec_pos n
  cases hx : Lib.decDigits n with
  | nil => rw [hx] at hp; simp at hp
  | cons c r =>
    rw [hx] at hd
    exact run_ns (dig_run (List.all_eq_true.1 hd c (by simp)))
theorem ns_ref (r : Rf) (h : mayB r.row r.col = true) : NS (rfT r) := by
  have hm := of_decide_eq_true h
  obtain ⟨hl1, hl2⟩ := let_ok r.col.toNat (by omega)
  rw [rfT_parts]
  cases r.pc
  · cases hx : (letB r.col.toNat).data.toList with
    | nil => exact absurd hx hl1
    | cons c t =>
      refine run_ns (r := _) ?_
      unfold isRun
      rw [hl2 c (by rw [hx]; simp)]; simp
  · exact ⟨36, _, rfl, by decide, by decide⟩
theorem ns_name {s : List UInt8} (h : nameB s = true) : NS s := by
  cases s with
  | nil => cases h
  | cons c r =>
    unfold nameB at h
    simp only [Bool.and_eq_true] at h
    refine run_ns ?_
    unfold isRun
    rw [h.1]; simp
/-- A text begins with neither of two signs. -/
theorem ns_tx : ∀ t : Ex, allE t = true → NS (txE t) := by
  refine Ex.ind fun nd ks ih => ?_
  intro h
  rw [allE, Bool.and_eq_true] at h
  rw [txE_mk]
  unfold nodeT
  split
  · rename_i hk
    obtain ⟨_, h1, h3, hlen⟩ := shape7 h.1 hk
    obtain ⟨k, rfl⟩ := List.length_eq_one_iff.1 hlen
    simp only [List.map_cons, List.map_nil, List.getD_cons_zero]
    unfold aheadL
    split
    · exact ⟨45, _, rfl, by decide, by decide⟩
    · split
      · exact ⟨43, _, rfl, by decide, by decide⟩
      · exact ns_app (ns_fr _ _ _ (ih k (by simp) (all_kid h.2 (by simp))))
  · split
    · rename_i h7 hk
      obtain ⟨_, h1, h3, hlen⟩ := shape8 h.1 hk
      obtain ⟨k, j, rfl⟩ := len_two hlen
      simp only [List.map_cons, List.map_nil, List.getD_cons_zero]
      exact ns_app (ns_app (ns_fr _ _ _ (ih k (by simp) (all_kid h.2 (by simp)))))
    · split
      · rename_i h7 h8 hk
        exact ns_app (ns_app (ns_app (ns_name (name_ok (by
          have := (shape9 h.1 hk).2
          unfold takesB at this
          split at this
          · rename_i q; exact q
          · cases this)))))
      · rename_i h7 h8 h9
        unfold leafL
        rcases told_kind h.1 with k | k | k | k | k | k | k | k | k
        · rw [if_pos k]
          obtain ⟨u, hu⟩ : ∃ u : Nat, nd.num = u := ⟨nd.num.toNat, by have := (shape1 h.1 k).2.1; omega⟩
          rw [hu]; exact ns_itoa u
        · rw [if_neg (by omega), if_pos k]
          exact ⟨34, _, rfl, by decide, by decide⟩
        · rw [if_neg (by omega), if_neg (by omega), if_pos k]
          split
          · exact ⟨84, _, rfl, by decide, by decide⟩
          · exact ⟨70, _, rfl, by decide, by decide⟩
        · rw [if_neg (by omega), if_neg (by omega), if_neg (by omega), if_pos k]
          unfold errL
          repeat' split
          all_goals exact ⟨35, _, rfl, by decide, by decide⟩
        · rw [if_neg (by omega), if_neg (by omega), if_neg (by omega), if_neg (by omega), if_neg (by omega)]
          exact ns_ref _ (shape5 h.1 k).2.1
        · rw [if_neg (by omega), if_neg (by omega), if_neg (by omega), if_neg (by omega), if_pos k]
          exact ns_app (ns_app (ns_ref _ (shape6 h.1 k).2.1))
        · exact absurd k h7
        · exact absurd k h8
        · exact absurd k h9
theorem lexB_fr {R : List UInt8 → Bool} {n : Int} {a : List Tk} {m : Int} {rest : List UInt8} (h : ∀ rest, NR rest → LexB R a rest) (hr : NR rest) : LexB R (frK n (a, m)) rest := by
  unfold frK
  split
  · refine ⟨lx_sign (by decide), LexB.app (h _ ?_) ⟨lx_sign (by decide), trivial⟩⟩
    exact nr_of (by decide) (by decide) (by decide)
  · exact h rest hr
theorem lexB_args {R : List UInt8 → Bool} {rest : List UInt8} : ∀ (l : List (List Tk × Int)) (f : Bool), (∀ p ∈ l, ∀ rest, NR rest → LexB R p.1 rest) → LexB R (argK f l ++ [sg7 [41]]) rest
  | [], f, h => ⟨lx_sign (by decide), trivial⟩
  | a :: r, f, h => by
    have ih := lexB_args (rest := rest) r true (fun p hp => h p (List.mem_cons_of_mem _ hp))
    have hnr : NR (flat (argK true r ++ [sg7 [41]]) ++ rest) := by
      cases r with
      | nil => exact nr_of (by decide) (by decide) (by decide)
      | cons b r => exact nr_of (c := 44) (by decide) (by decide) (by decide)
    have h1 : LexB R (a.1 ++ (argK true r ++ [sg7 [41]])) rest := LexB.app (h a (by simp) _ hnr) ih
    rw [argK, List.append_assoc, List.append_assoc]
    cases f
    · exact h1
    · exact ⟨lx_sign (by decide), h1⟩
/-- A tree's words are cut off one behind the other. -/
theorem lexB_all {R : List UInt8 → Bool} (hR : RefOk R) : ∀ t : Ex, allE t = true → NumE t → ∀ rest, NR rest → LexB R (tkE t) rest := by
  refine Ex.ind fun nd ks ih => ?_
  intro h hN rest hr
  have h0 := h
  rw [allE, Bool.and_eq_true] at h
  rw [NumE] at hN
  have ih' : ∀ k ∈ ks, ∀ rest, NR rest → LexB R (tkE k) rest := fun k hk => ih k hk (all_kid h.2 hk) (num_kid hN.2 hk)
  rw [tkE_mk]
  unfold nodeK
  split
  · rename_i hk
    obtain ⟨_, h1, h3, hlen⟩ := shape7 h.1 hk
    obtain ⟨k, rfl⟩ := List.length_eq_one_iff.1 hlen
    simp only [List.map_cons, List.map_nil, List.getD_cons_zero]
    have hk' := ih' k (by simp)
    rcases (show nd.op = 1 ∨ nd.op = 2 ∨ nd.op = 3 by omega) with e | e | e
    · rw [e, show aheadK 1 = [sg7 [45]] from rfl, show behindK 1 = [] from rfl, List.append_nil]
      exact ⟨lx_sign (by decide), lexB_fr hk' hr⟩
    · rw [e, show aheadK 2 = [sg7 [43]] from rfl, show behindK 2 = [] from rfl, List.append_nil]
      exact ⟨lx_sign (by decide), lexB_fr hk' hr⟩
    · rw [e, show aheadK 3 = [] from rfl, show behindK 3 = [sg7 [37]] from rfl, List.nil_append]
      exact LexB.app (lexB_fr hk' (nr_of (by decide) (by decide) (by decide))) ⟨lx_sign (by decide), trivial⟩
  · split
    · rename_i h7 hk
      obtain ⟨_, h1, h3, hlen⟩ := shape8 h.1 hk
      obtain ⟨k, j, rfl⟩ := len_two hlen
      simp only [List.map_cons, List.map_nil, List.getD_cons_zero, List.getD_cons_succ]
      refine LexB.app (lexB_fr (ih' k (by simp)) ?_) ⟨lx_op ⟨h1, h3⟩ ?_, lexB_fr (ih' j (by simp)) hr⟩
      · rw [flat_cons, flat_sg, List.append_assoc]
        exact nr_op ⟨h1, h3⟩ _
      · rw [flat_fr]
        refine ns_app (ns_fr _ _ _ ?_)
        rw [← tx_flat]
        exact ns_tx j (all_kid h.2 (by simp))
    · split
      · rename_i h7 h8 hk
        have hn := name_ok (f := nd.fn) (by
          have := (shape9 h.1 hk).2
          unfold takesB at this
          split at this
          · rename_i q; exact q
          · cases this)
        refine ⟨lx_name hn, lx_sign (by decide), lexB_args _ false ?_⟩
        intro p hp
        obtain ⟨k, hk', rfl⟩ := List.mem_map.1 hp
        exact ih' k hk'
      · rename_i h7 h8 h9
        unfold leafK
        rcases told_kind h.1 with k | k | k | k | k | k | k | k | k
        · rw [if_pos k]
          refine ⟨?_, trivial⟩
          exact lx_num (shape1 h.1 k).2.1 hN.1 hr
        · rw [if_neg (by omega), if_pos k]
          exact ⟨lx_text hr, trivial⟩
        · rw [if_neg (by omega), if_neg (by omega), if_pos k]
          have := lx_tru (R := R) (b := decide (nd.num = 1)) hr
          simp only [decide_eq_true_eq] at this
          exact ⟨this, trivial⟩
        · rw [if_neg (by omega), if_neg (by omega), if_neg (by omega), if_pos k]
          exact ⟨lx_err (shape4 h.1 k).2.1, trivial⟩
        · rw [if_neg (by omega), if_neg (by omega), if_neg (by omega), if_neg (by omega), if_neg (by omega)]
          exact ⟨lx_ref (shape5 h.1 k).2.1 (hR _ (shape5 h.1 k).2.1) hr, trivial⟩
        · rw [if_neg (by omega), if_neg (by omega), if_neg (by omega), if_neg (by omega), if_pos k]
          obtain ⟨_, m1, m2, _⟩ := shape6 h.1 k
          refine ⟨lx_ref m1 (hR _ m1) ?_, lx_sign (by decide), lx_ref m2 (hR _ m2) hr, trivial⟩
          exact nr_of (c := 58) (by decide) (by decide) (by decide)
        · exact absurd k h7
        · exact absurd k h8
        · exact absurd k h9
/-- Letters read back. -/
def valL : List UInt8 → Nat | [c] => c.toNat - 65 | [c, d] => (c.toNat - 64) * 26 + (d.toNat - 65) | _ => 0
theorem valL_let (c : Nat) (h : c < 702) : valL (letB c).data.toList = c := by
  unfold letB
  split
  · rename_i hc
    have hn : (65 + (c : Int) % 26).toNat = 65 + c % 26 := by omega
    show (UInt8.ofNat (65 + (c : Int) % 26).toNat).toNat - 65 = c
    rw [hn, UInt8.toNat_ofNat']; omega
  · rename_i hc
    have hn : (65 + (c : Int) % 26).toNat = 65 + c % 26 := by omega
    have hn2 : (65 + (c : Int) / 26 - 1).toNat = 65 + c / 26 - 1 := by omega
    show ((UInt8.ofNat (65 + (c : Int) / 26 - 1).toNat).toNat - 64) * 26 + ((UInt8.ofNat (65 + (c : Int) % 26).toNat).toNat - 65) = c
    rw [hn, hn2, UInt8.toNat_ofNat', UInt8.toNat_ofNat']; omega
/-- A reference read back. -/
def Rd0 (s : List UInt8) : Rf :=
  let q := s.head? == some 36
  let s1 := if q then s.tail else s
  let ls := s1.takeWhile isC
  let s2 := s1.drop ls.length
  let p := s2.head? == some 36
  let s3 := if p then s2.tail else s2
  ⟨(val s3 : Int) - 1, (valL ls : Int), p, q⟩
theorem Rd0_ref (r : Rf) (h : mayB r.row r.col = true) : Rd0 (rfT r) = r := by
  have hm := of_decide_eq_true h
  obtain ⟨row, col, pr, pc⟩ := r
  simp only at hm
  obtain ⟨x, rfl⟩ : ∃ x : Nat, row = x := ⟨row.toNat, by omega⟩
  obtain ⟨y, rfl⟩ : ∃ y : Nat, col = y := ⟨col.toNat, by omega⟩
  rw [rfT_parts]
  simp only [Int.toNat_natCast]
  obtain ⟨hl1, hl2⟩ := let_ok y (by omega)
  have hv := valL_let y (by omega)
  obtain ⟨cl, rl, hi1, hi2⟩ := itoa_nonempty (x + 1)
  have hval : val (Lib.itoa ((x + 1 : Nat) : Int)) = x + 1 := by rw [itoa_pos]; exact val_dec _
  generalize (letB y).data.toList = LL at *
  generalize Lib.itoa ((x + 1 : Nat) : Int) = II at *
  obtain ⟨c, t, rfl⟩ : ∃ c t, LL = c :: t := by
    cases LL with
    | nil => exact absurd rfl hl1
    | cons c t => exact ⟨c, t, rfl⟩
  obtain ⟨d, u, hd⟩ : ∃ d u, II = d :: u := by
    cases II with
    | nil => simp at hi1
    | cons d u => exact ⟨d, u, rfl⟩
  have hc36 : c ≠ 36 := by rintro rfl; have := hl2 36 (by simp); revert this; decide
  have hdd := hi2 d (by rw [hd]; simp)
  have hd36 : d ≠ 36 := by rintro rfl; revert hdd; decide
  have hdC : isC d = false := by
    cases q : isC d
    · rfl
    · rw [(isC_not q).1] at hdd; cases hdd
  have key : ∀ rest : List UInt8, (∃ e v, rest = e :: v ∧ isC e = false) → ((c :: t) ++ rest).takeWhile isC = c :: t := by
    rintro rest ⟨e, v, rfl, he⟩
    rw [List.takeWhile_append_of_pos hl2, List.takeWhile_cons, he]; simp
  have body : ∀ s1 : List UInt8, s1 = (c :: t) ++ (pinL pr ++ II) → s1.takeWhile isC = c :: t ∧ s1.drop (c :: t).length = pinL pr ++ II := by
    rintro s1 rfl
    refine ⟨key _ ?_, List.drop_left⟩
    cases pr
    · exact ⟨d, u, by rw [hd]; rfl, hdC⟩
    · exact ⟨36, II, rfl, by decide⟩
  have hp : ((pinL pr ++ II).head? == some 36) = pr ∧ (if pr then (pinL pr ++ II).tail else (pinL pr ++ II)) = II := by
    cases pr
    · refine ⟨?_, rfl⟩
      rw [hd]
      show (some d == some (36 : UInt8)) = false
      simpa using hd36
    · exact ⟨rfl, rfl⟩
  have hs : pinL pc ++ (c :: t) ++ pinL pr ++ II = pinL pc ++ ((c :: t) ++ (pinL pr ++ II)) := by simp
  rw [hs]
  have hq : ((pinL pc ++ ((c :: t) ++ (pinL pr ++ II))).head? == some 36) = pc ∧ (if pc then (pinL pc ++ ((c :: t) ++ (pinL pr ++ II))).tail else (pinL pc ++ ((c :: t) ++ (pinL pr ++ II)))) = (c :: t) ++ (pinL pr ++ II) := by
    cases pc
    · refine ⟨?_, rfl⟩
      show (some c == some (36 : UInt8)) = false
      simpa using hc36
    · exact ⟨rfl, rfl⟩
  obtain ⟨b1, b2⟩ := body _ rfl
  unfold Rd0
  generalize pinL pc ++ ((c :: t) ++ (pinL pr ++ II)) = S0 at *
  generalize (c :: t) ++ (pinL pr ++ II) = S1 at *
  generalize pinL pr ++ II = S2 at *
  simp only
  rw [hq.1, hq.2, b1, b2, hp.1, hp.2, hval, hv]
  have : (((x + 1 : Nat) : Int)) - 1 = (x : Int) := by omega
  rw [this]
/-- A function found by its name. -/
def Fd0 (s : List UInt8) : Option (Int × Int × Int) := (tab.findIdx? (fun r => r.1.data.toList == s)).bind fun k => (tab[k]?).map fun r => ((k : Int) + 1, r.2.1, r.2.2)
theorem Fd0_all : (List.range 76).all (fun k => decide (Fd0 (nameL ((k : Int) + 1)) = (tab[k]?).map fun r => ((k : Int) + 1, r.2.1, r.2.2))) = true := by decide +kernel
theorem gr0 : Gr (fun s => some (Rd0 s)) Fd0 where
  ref r h := by show some (Rd0 (rfT r)) = some r; rw [Rd0_ref r h]
  fn f n h := by
    unfold takesB at h
    split at h
    · rename_i q
      have hk : (f - 1).toNat < 76 := by omega
      have := List.all_eq_true.1 Fd0_all (f - 1).toNat (List.mem_range.2 hk)
      have hf : (((f - 1).toNat : Nat) : Int) + 1 = f := by omega
      simp only [decide_eq_true_eq, hf] at this
      rw [List.getElem?_eq_getElem (by rw [tab_len]; omega), Option.map_some] at this
      simp only [Bool.and_eq_true, Bool.or_eq_true, decide_eq_true_eq] at h
      exact ⟨_, _, this, h.1, h.2⟩
    · cases h
/-- One text, one tree. -/
theorem tx_inj {t u : Ex} (ht : mayR t = 0) (hu : mayR u = 0) (hNt : NumE t) (hNu : NumE u) (h : txE t = txE u) : t = u := by
  obtain ⟨ft, at'⟩ := may_all ht
  obtain ⟨fu, au⟩ := may_all hu
  have ft := of_decide_eq_true ft
  have fu := of_decide_eq_true fu
  rw [tx_flat, tx_flat] at h
  have hR : RefOk (fun _ => true) := fun _ _ => rfl
  exact tk_inj gr0 at' ft.2.1 au fu.2.1 (lex_inj (lexB_all hR t at' hNt [] (.inl rfl)) (lexB_all hR u au hNu [] (.inl rfl)) h)
mutual
theorem same_eq : ∀ (t u : Ex), sameE t u = true → t = u
  | .mk n ks, .mk m ls, h => by
    rw [sameE, Bool.and_eq_true] at h
    have h1 : n = m := ndB_eq h.1
    have h2 := sameL_eq ks ls h.2
    rw [h1, h2]
theorem sameL_eq : ∀ (ks ls : List Ex), sameL ks ls = true → ks = ls
  | [], [], _ => rfl
  | [], x :: y, h => by rw [sameL] at h; cases h
  | k :: r, [], h => by rw [sameL] at h; cases h
  | k :: r, x :: y, h => by
    rw [sameL] at h
    simp only [Bool.and_eq_true] at h
    rw [same_eq k x h.1, sameL_eq r y h.2]
end
theorem same_self : ∀ t : Ex, sameE t t = true := by
  have hL : ∀ ks : List Ex, (∀ k ∈ ks, sameE k k = true) → sameL ks ks = true := by
    intro ks
    induction ks with
    | nil => intro _; rw [sameL]; rfl
    | cons k r ih =>
      intro h
      rw [sameL]
      simp only [Bool.and_eq_true]
      exact ⟨h k (by simp), ih (fun x hx => h x (List.mem_cons_of_mem _ hx))⟩
  refine Ex.ind fun nd ks ih => ?_
  rw [sameE, Bool.and_eq_true]
  exact ⟨by show ndB nd nd = true; simp [ndB, rfB], hL ks ih⟩
theorem same_tx {t u : Ex} (ht : mayR t = 0) (hu : mayR u = 0) (hNt : NumE t) (hNu : NumE u) : (txE t = txE u) ↔ sameE t u = true :=
  ⟨fun h => by rw [tx_inj ht hu hNt hNu h]; exact same_self u, fun h => by rw [same_eq t u h]⟩
end Go.Proofs.YtdlomdbmmhjppaaGreatDoor.T9
namespace Go.Proofs.YtdlomdbmmhjppaaGreatDoor.T9
open Go.RowKit Go.Sort
set_option linter.unusedVariables false

/-- A byte seen: how many stand open, the most so far, within a text? -/
def nsB (s : Int × Int × Bool) (c : UInt8) : Int × Int × Bool :=
  if c = 34 then (s.1, s.2.1, !s.2.2) else if s.2.2 = true then s else if c = 40 then (s.1 + 1, max s.2.1 (s.1 + 1), s.2.2) else if c = 41 then (s.1 - 1, s.2.1, s.2.2) else s
def nsL (s : Int × Int × Bool) (l : List UInt8) : Int × Int × Bool := l.foldl nsB s
theorem nsL_app (s : Int × Int × Bool) (a b : List UInt8) : nsL s (a ++ b) = nsL (nsL s a) b := List.foldl_append ..
theorem nsL_cons (s : Int × Int × Bool) (c : UInt8) (b : List UInt8) : nsL s (c :: b) = nsL (nsB s c) b := rfl
/-- These bytes open at most k, and close all of them. -/
def Nst (l : List UInt8) (k : Int) : Prop := ∀ n m : Int, ∃ m', nsL (n, m, false) l = (n, m', false) ∧ m' ≤ max m (n + k)
theorem Nst.nil : Nst [] 0 := fun n m => ⟨m, rfl, by omega⟩
theorem Nst.up {l : List UInt8} {k k' : Int} (h : Nst l k) (hk : k ≤ k') : Nst l k' := fun n m => by
  obtain ⟨m', e, h⟩ := h n m
  exact ⟨m', e, by omega⟩
theorem Nst.app {a b : List UInt8} {k : Int} (ha : Nst a k) (hb : Nst b k) : Nst (a ++ b) k := fun n m => by
  obtain ⟨m1, e1, h1⟩ := ha n m
  obtain ⟨m2, e2, h2⟩ := hb n m1
  exact ⟨m2, by rw [nsL_app, e1, e2], by omega⟩
theorem Nst.br {a : List UInt8} {k : Int} (ha : Nst a k) (h0 : 0 ≤ k) : Nst ([40] ++ a ++ [41]) (k + 1) := fun n m => by
  obtain ⟨m1, e1, h1⟩ := ha (n + 1) (max m (n + 1))
  refine ⟨m1, ?_, by omega⟩
  rw [nsL_app, nsL_app, show nsL (n, m, false) [40] = (n + 1, max m (n + 1), false) from rfl, e1]
  show (n + 1 - 1, m1, false) = (n, m1, false)
  rw [show n + 1 - 1 = n by omega]
theorem nst_plain : ∀ {l : List UInt8}, (∀ c ∈ l, c ≠ 34 ∧ c ≠ 40 ∧ c ≠ 41) → Nst l 0
  | [], _ => Nst.nil
  | c :: r, h => fun n m => by
    obtain ⟨h1, h2, h3⟩ := h c (by simp)
    obtain ⟨m', e, hm⟩ := nst_plain (fun x hx => h x (List.mem_cons_of_mem _ hx)) n m
    refine ⟨m', ?_, hm⟩
    rw [nsL_cons, show nsB (n, m, false) c = (n, m, false) by unfold nsB; rw [if_neg h1, if_neg (by simp), if_neg h2, if_neg h3], e]
theorem nsL_qt : ∀ (l : List UInt8) (n m : Int), nsL (n, m, true) (qt l) = (n, m, true)
  | [], n, m => rfl
  | c :: r, n, m => by
    rw [qt_cons, nsL_app]
    by_cases h : c = 34
    · rw [if_pos h, show nsL (n, m, true) [34, 34] = (n, m, true) from rfl, nsL_qt r]
    · rw [if_neg h, show nsL (n, m, true) [c] = (n, m, true) by show nsB _ c = _; unfold nsB; rw [if_neg h, if_pos rfl], nsL_qt r]
theorem nst_text (l : List UInt8) : Nst ([34] ++ qt l ++ [34]) 0 := fun n m => ⟨m, by
  rw [nsL_app, nsL_app, show nsL (n, m, false) [34] = (n, m, true) from rfl, nsL_qt]
  rfl, by omega⟩
theorem nst_run {l : List UInt8} (h : ∀ c ∈ l, isRun c = true) : Nst l 0 := nst_plain fun c hc => by
  have := h c hc
  refine ⟨?_, ?_, ?_⟩
  all_goals
    rintro rfl
    revert this
    decide
theorem run_itoa (n : Nat) : ∀ c ∈ Lib.itoa (n : Int), isRun c = true := fun c hc => by
  obtain ⟨_, _, _, h⟩ := itoa_nonempty n
  exact dig_run (h c hc)
theorem nst_num {n : Int} (h : 0 ≤ n) : Nst (Lib.itoa n) 0 := by
  obtain ⟨k, rfl⟩ : ∃ k : Nat, n = (k : Int) := ⟨n.toNat, by omega⟩
  exact nst_run (run_itoa k)
theorem nst_ref {r : Rf} (hm : mayB r.row r.col = true) : Nst (rfT r) 0 := by
  have hm := of_decide_eq_true hm
  rw [rfT_parts]
  have h1 := (let_ok r.col.toNat (by omega)).2
  have pin : ∀ p, Nst (pinL p) 0 := fun p => by
    cases p
    · exact Nst.nil
    · exact nst_plain (by decide)
  exact (((pin _).app (nst_run fun c hc => by unfold isRun; rw [h1 c hc]; simp)).app (pin _)).app (nst_run (run_itoa _))
theorem nst_name {f : Int} (h : 1 ≤ f ∧ f ≤ 76) : Nst (nameL f) 0 := by
  have hn := name_ok h
  unfold nameB at hn
  cases e : nameL f with
  | nil => exact Nst.nil
  | cons c r =>
    rw [e] at hn
    simp only [Bool.and_eq_true] at hn
    refine nst_run fun x hx => ?_
    have := List.all_eq_true.1 hn.2 x hx
    rw [Bool.or_eq_true] at this
    unfold isRun
    rcases this with h | h
    · rw [h]; simp
    · rw [h]; simp
theorem nst_fr {n : Int} {a : List UInt8} {m k : Int} (h : Nst a k) (h0 : 0 ≤ k) : Nst (fr n (a, m)) (k + 1) := by
  unfold fr
  split
  · exact h.br h0
  · exact h.up (by omega)
theorem nst_args {k : Int} (h0 : 0 ≤ k) : ∀ (l : List (List UInt8 × Int)) (f : Bool), (∀ p ∈ l, Nst p.1 k) → Nst (argF f l) k
  | [], f, _ => Nst.nil.up h0
  | a :: r, f, h => by
    unfold argF
    refine (Nst.app ?_ (h a (by simp))).app (nst_args h0 r true fun p hp => h p (List.mem_cons_of_mem _ hp))
    cases f
    · exact Nst.nil.up h0
    · exact (nst_plain (by decide)).up h0
theorem nst_leaf {nd : Nd} {len : Nat} (h : toldB nd len = true) (h7 : nd.kind ≠ 7) (h8 : nd.kind ≠ 8) (h9 : nd.kind ≠ 9) : Nst (leafL nd) 0 := by
  unfold leafL
  rcases told_kind h with k | k | k | k | k | k | k | k | k
  · rw [if_pos k]; exact nst_num (shape1 h k).2.1
  · rw [if_neg (by omega), if_pos k]; exact nst_text _
  · rw [if_neg (by omega), if_neg (by omega), if_pos k]
    split
    · exact nst_plain (by decide)
    · exact nst_plain (by decide)
  · rw [if_neg (by omega), if_neg (by omega), if_neg (by omega), if_pos k]
    have := (shape4 h k).2.1
    rcases (show nd.num = 1 ∨ nd.num = 2 ∨ nd.num = 3 ∨ nd.num = 4 ∨ nd.num = 5 ∨ nd.num = 6 by omega) with e | e | e | e | e | e
    all_goals rw [e]; exact nst_plain (by decide)
  · rw [if_neg (by omega), if_neg (by omega), if_neg (by omega), if_neg (by omega), if_neg (by omega)]
    exact nst_ref (shape5 h k).2.1
  · rw [if_neg (by omega), if_neg (by omega), if_neg (by omega), if_neg (by omega), if_pos k]
    obtain ⟨_, h1, h2, _⟩ := shape6 h k
    exact ((nst_ref h1).app (nst_plain (by decide))).app (nst_ref h2)
  · exact absurd k h7
  · exact absurd k h8
  · exact absurd k h9
theorem okf9 {nd : Nd} {len : Nat} (h : toldB nd len = true) (hk : nd.kind = 9) : 1 ≤ nd.fn ∧ nd.fn ≤ 76 := by
  unfold toldB okOf at h; simp only [hk] at h; simp at h
  have := h.1.1
  unfold takesB at this
  split at this
  · rename_i q; exact q
  · cases this
theorem depth_kid : ∀ {ks : List Ex} {k : Ex}, k ∈ ks → depthE k ≤ depthL ks
  | x :: r, k, h => by
    rw [depthL]
    rcases List.mem_cons.1 h with rfl | h
    · omega
    · have := depth_kid h
      omega
theorem nst_all : ∀ t : Ex, allE t = true → Nst (txE t) (2 * (depthE t : Int) - 1) := by
  refine Ex.ind fun nd ks ih => ?_
  intro h
  rw [allE, Bool.and_eq_true] at h
  have hk := fun k (hk : k ∈ ks) => ih k hk (all_kid h.2 hk)
  rw [txE_mk, depthE]
  unfold nodeT
  by_cases h7 : nd.kind = 7
  · obtain ⟨en, h1, h3, hlen⟩ := shape7 h.1 h7
    obtain ⟨k, rfl⟩ := List.length_eq_one_iff.1 hlen
    have hd := depth_kid (ks := [k]) (k := k) (by simp)
    have hp := depth_pos k
    have hf := nst_fr (n := lv nd) (m := lv k.nd) (hk k (by simp)) (by omega)
    rw [if_pos h7]
    have ea : Nst (aheadL nd.op) 0 := by
      unfold aheadL
      repeat' split
      all_goals exact nst_plain (by decide)
    have eb : Nst (behindL nd.op) 0 := by
      unfold behindL
      repeat' split
      all_goals exact nst_plain (by decide)
    refine Nst.up (k := 2 * (depthE k : Int) - 1 + 1) ?_ (by omega)
    exact ((ea.up (by omega)).app hf).app (eb.up (by omega))
  by_cases h8 : nd.kind = 8
  · obtain ⟨en, h1, h3, hlen⟩ := shape8 h.1 h8
    obtain ⟨k, j, rfl⟩ := len_two hlen
    have hd := depth_kid (ks := [k, j]) (k := k) (by simp)
    have hd' := depth_kid (ks := [k, j]) (k := j) (by simp)
    have hp := depth_pos k
    have hp' := depth_pos j
    have hf := nst_fr (n := lv nd) (m := lv k.nd) (hk k (by simp)) (by omega)
    have hg := nst_fr (n := lv nd + 1) (m := lv j.nd) (hk j (by simp)) (by omega)
    rw [if_neg h7, if_pos h8]
    have es : Nst (sgB nd.op) 0 := by
      rcases op_cases ⟨h1, h3⟩ with e | e | e | e | e | e | e | e | e | e | e | e
      all_goals rw [e]; exact nst_plain (by decide)
    exact ((hf.up (by omega)).app (es.up (by omega))).app (hg.up (by omega))
  by_cases h9 : nd.kind = 9
  · obtain ⟨en, ht⟩ := shape9 h.1 h9
    rw [if_neg h7, if_neg h8, if_pos h9]
    have hf : 1 ≤ nd.fn ∧ nd.fn ≤ 76 := okf9 h.1 h9
    have hn := nst_name hf
    have ha := nst_args (k := 2 * (depthL ks : Int)) (by omega) (ks.map fun k => (txE k, lv k.nd)) false (fun p hp => by
      obtain ⟨q, hq, rfl⟩ := List.mem_map.1 hp
      have := depth_kid hq
      exact (hk q hq).up (by omega))
    have hb := ha.br (by omega)
    rw [show nameL nd.fn ++ [40] ++ argF false (ks.map fun k => (txE k, lv k.nd)) ++ [41] = nameL nd.fn ++ ([40] ++ argF false (ks.map fun k => (txE k, lv k.nd)) ++ [41]) by simp]
    exact (hn.up (by omega)).app (hb.up (by omega))
  rw [if_neg h7, if_neg h8, if_neg h9]
  exact (nst_leaf h.1 h7 h8 h9).up (by have := depth_pos (.mk nd ks); rw [depthE] at this; omega)
end Go.Proofs.YtdlomdbmmhjppaaGreatDoor.T9
