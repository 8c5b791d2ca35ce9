/- How few brackets there may be: whatever words are read as a tree, as many open brackets stand in them as in the tree's own text; no Go in sight. Open brackets outside of texts: as many as there are words that are one; a pair struck out; no Go in sight. -/
import Derived.Test.YtbmnoiddklafkaaGreatDoorFrJ
import Derived.Test.YtbmnoiddklafkaaGreatDoorPsJ
namespace Go.Proofs.YtbmnoiddklafkaaGreatDoor.T9
open Go.RowKit Go.Sort
set_option linter.unusedVariables false

/-- An open bracket. -/
def isO (k : Tk) : Bool := k.1 == 7 && k.2 == [40]
def cntO (l : List Tk) : Nat := l.countP isO
theorem cntO_app (a b : List Tk) : cntO (a ++ b) = cntO a + cntO b := List.countP_append ..
theorem cntO_cons (x : Tk) (b : List Tk) : cntO (x :: b) = cntO b + (if isO x then 1 else 0) := List.countP_cons ..
theorem cntO_nil : cntO [] = 0 := rfl
/-- How many stand in a tree's words from a level on. -/
def need (n : Int) (t : Ex) : Nat := cntO (frK n (tkE t, lv t.nd))
theorem need_eq (n : Int) (t : Ex) : need n t = cntO (tkE t) + (if lv t.nd < n then 1 else 0) := by
  unfold need frK
  by_cases h : lv t.nd < n
  · rw [if_pos h, if_pos (show (tkE t, lv t.nd).2 < n from h)]
    show cntO (sg7 [40] :: (tkE t ++ [sg7 [41]])) = _
    rw [cntO_cons, cntO_app, cntO_cons, cntO_nil, if_pos (show isO (sg7 [40]) = true by decide), if_neg (show ¬ isO (sg7 [41]) = true by decide)]
  · rw [if_neg h, if_neg (show ¬ (tkE t, lv t.nd).2 < n from h)]
    rfl
theorem need_mono {n m : Int} (h : n ≤ m) (t : Ex) : need n t ≤ need m t := by
  rw [need_eq, need_eq]
  by_cases h1 : lv t.nd < n
  · rw [if_pos h1, if_pos (by omega)]; exact Nat.le_refl _
  · rw [if_neg h1]; omega
theorem need_ge (n : Int) (t : Ex) : cntO (tkE t) ≤ need n t := by rw [need_eq]; omega
theorem need_le (n : Int) (t : Ex) : need n t ≤ cntO (tkE t) + 1 := by rw [need_eq]; split <;> omega
theorem need_own {n : Int} {t : Ex} (h : n ≤ lv t.nd) : need n t = cntO (tkE t) := by rw [need_eq, if_neg (by omega), Nat.add_zero]
theorem sgB_no (op : Int) : isO (sg7 (sgB op)) = false := by
  unfold sgB
  repeat' split
  all_goals decide
theorem cnt_bin (op : Int) (t u : Ex) : cntO (tkE (binX op t u)) = need (lvB op) t + need (lvB op + 1) u := by
  unfold binX
  rw [tkE_mk]
  unfold nodeK
  rw [if_neg (show ¬ (8 : Int) = 7 by decide), if_pos rfl]
  show cntO (frK (lvB op) (tkE t, lv t.nd) ++ sg7 (sgB op) :: frK (lvB op + 1) (tkE u, lv u.nd)) = _
  rw [cntO_app, cntO_cons, sgB_no]
  rfl
theorem lv_bin (op : Int) (t u : Ex) : lv (binX op t u).nd = lvB op := rfl
theorem cnt_un (op : Int) (t : Ex) (n : Int) (hn : lv (unX op t).nd = n) : cntO (tkE (unX op t)) = need n t := by
  subst hn
  unfold unX
  rw [tkE_mk]
  unfold nodeK
  rw [if_pos rfl]
  show cntO (aheadK op ++ frK (lv _) (tkE t, lv t.nd) ++ behindK op) = _
  have ha : cntO (aheadK op) = 0 := by
    unfold aheadK
    repeat' split
    all_goals rfl
  have hb : cntO (behindK op) = 0 := by
    unfold behindK
    repeat' split
    all_goals rfl
  rw [cntO_app, cntO_app, ha, hb]
  show 0 + need _ t + 0 = need _ t
  rw [Nat.zero_add, Nat.add_zero]
  rfl
theorem opOf_lv (s : List UInt8) (h : 1 ≤ (opOf s).1) : lvB (opOf s).2 = ((opOf s).1 : Int) := by
  by_cases h0 : s = [61]
  · subst h0; rfl
  by_cases h1 : s = [60, 62]
  · subst h1; rfl
  by_cases h2 : s = [60]
  · subst h2; rfl
  by_cases h3 : s = [60, 61]
  · subst h3; rfl
  by_cases h4 : s = [62]
  · subst h4; rfl
  by_cases h5 : s = [62, 61]
  · subst h5; rfl
  by_cases h6 : s = [38]
  · subst h6; rfl
  by_cases h7 : s = [43]
  · subst h7; rfl
  by_cases h8 : s = [45]
  · subst h8; rfl
  by_cases h9 : s = [42]
  · subst h9; rfl
  by_cases h10 : s = [47]
  · subst h10; rfl
  by_cases h11 : s = [94]
  · subst h11; rfl
  exfalso
  revert h
  unfold opOf
  rw [if_neg h0, if_neg h1, if_neg h2, if_neg h3, if_neg h4, if_neg h5, if_neg h6, if_neg h7, if_neg h8, if_neg h9, if_neg h10, if_neg h11]
  decide
section
variable (l : List Wd)
def pc (i : Nat) : Nat := cntO ((l.map kt).take i)
theorem pc_step (i : Nat) : pc l (i + 1) = pc l i + cntO ((l.map kt)[i]?).toList := by
  unfold pc
  rw [List.take_add_one, cntO_app]
theorem pc_succ (i : Nat) : pc l i ≤ pc l (i + 1) := by rw [pc_step]; omega
theorem pc_mono {i j : Nat} (h : i ≤ j) : pc l i ≤ pc l j := by
  induction h with
  | refl => exact Nat.le_refl _
  | step _ ih => exact Nat.le_trans ih (pc_succ l _)
theorem pc_hit {i : Nat} (h : sgAt l i = [40]) : pc l (i + 1) = pc l i + 1 := by
  have hi := sg_lt (l := l) (i := i) (by rw [h]; simp)
  have hk : (wdAt l i).kind = 7 ∧ (wdAt l i).text = [40] := by
    unfold sgAt at h
    split at h
    · rename_i hk; exact ⟨hk, h⟩
    · cases h
  have hw : wdAt l i = l[i] := by unfold wdAt; rw [List.getD_eq_getElem?_getD, List.getElem?_eq_getElem hi]; rfl
  rw [hw] at hk
  rw [pc_step, List.getElem?_map, List.getElem?_eq_getElem hi]
  show pc l i + cntO [kt l[i]] = pc l i + 1
  have : isO (kt l[i]) = true := by unfold isO kt; rw [hk.1, hk.2]; rfl
  rw [cntO_cons, if_pos this, cntO_nil]
theorem pc_all (i : Nat) : pc l i ≤ cntO (l.map kt) := by
  unfold pc cntO
  exact (List.take_sublist _ _).countP_le
end
def sumO (ts : List Ex) : Nat := (ts.map fun t => cntO (tkE t)).sum
theorem sumO_app (a b : List Ex) : sumO (a ++ b) = sumO a + sumO b := by unfold sumO; rw [List.map_append, List.sum_append]
theorem cnt_args : ∀ (ts : List Ex) (f : Bool), cntO (argK f (ts.map fun k => (tkE k, lv k.nd))) = sumO ts
  | [], f => rfl
  | t :: r, f => by
    rw [List.map_cons, argK, cntO_app, cntO_app, cnt_args r true]
    show cntO (if f = true then [sg7 [44]] else []) + cntO (tkE t) + sumO r = sumO (t :: r)
    have : cntO (if f = true then [sg7 [44]] else []) = 0 := by cases f <;> rfl
    rw [this]
    unfold sumO
    rw [List.map_cons, List.sum_cons]
    omega
theorem cnt_call (g : Int) (ts : List Ex) : cntO (tkE (callX g ts)) = sumO ts + 1 := by
  unfold callX
  rw [tkE_mk]
  unfold nodeK
  rw [if_neg (show ¬ (9 : Int) = 7 by decide), if_neg (show ¬ (9 : Int) = 8 by decide), if_pos rfl, cntO_cons, cntO_cons, cntO_app, cnt_args, cntO_cons, cntO_nil, if_neg (show ¬ isO (sg7 [41]) = true by decide), if_pos (show isO (sg7 [40]) = true by decide)]
  rw [if_neg (by unfold isO; simp)]
theorem cnt_leaf (nd : Nd) (h7 : nd.kind ≠ 7) (h8 : nd.kind ≠ 8) (h9 : nd.kind ≠ 9) : need 7 (.mk nd []) = 0 := by
  have hl : lv nd = 8 := by unfold lv; rw [if_neg h8, if_neg h7]
  rw [need_own (show (7 : Int) ≤ lv nd by rw [hl]; decide), tkE_mk]
  unfold nodeK
  rw [if_neg h7, if_neg h8, if_neg h9]
  unfold leafK
  repeat' split
  all_goals (simp [cntO, isO, sg7])
theorem leaf0 (k n : Int) (x : ByteArray) (h : k = 1 ∨ k = 2 ∨ k = 3 ∨ k = 4) : need 7 (leafX k n x) = 0 := cnt_leaf _ (show k ≠ 7 by omega) (show k ≠ 8 by omega) (show k ≠ 9 by omega)
theorem ref0 (nd : Nd) (h : nd.kind = 4 ∨ nd.kind = 5 ∨ nd.kind = 6) : need 7 (.mk nd []) = 0 := cnt_leaf nd (by omega) (by omega) (by omega)
section
variable {Rd : List UInt8 → Option Rf} {Fd : List UInt8 → Option (Int × Int × Int)} {l : List Wd}
theorem few_perc {m : Nat} : ∀ {t : Ex}, need 7 (percX m t) ≤ need 7 t := by
  induction m with
  | zero => exact fun {t} => Nat.le_refl _
  | succ m ih =>
    intro t
    show need 7 (percX m (unX 3 t)) ≤ need 7 t
    refine Nat.le_trans ih ?_
    have e : lv (unX 3 t).nd = 7 := rfl
    rw [need_own (by rw [e]; exact Int.le_refl _), cnt_un 3 t 7 rfl]
    exact Nat.le_refl _
theorem sgn_lv (s : List UInt8) (t : Ex) : lv (unX (sgnOf s) t).nd = 6 := by
  unfold sgnOf
  repeat' split
  all_goals rfl
theorem few_signs (i : Nat) : ∀ (k : Nat) {t : Ex}, need 6 (signsX l i k t) ≤ need 6 t
  | 0, t => Nat.le_refl _
  | k + 1, t => by
    show need 6 (signsX l i k (unX (sgnOf (wdAt l (i + k)).text) t)) ≤ need 6 t
    refine Nat.le_trans (few_signs i k) ?_
    have := sgn_lv (wdAt l (i + k)).text t
    rw [need_own (by rw [this]; exact Int.le_refl _), cnt_un _ t 6 this]
    exact Nat.le_refl _
/-- What each reading keeps to. -/
structure Few (Rd : List UInt8 → Option Rf) (Fd : List UInt8 → Option (Int × Int × Int)) (l : List Wd) (f : Nat) : Prop where
  line : ∀ (n i o : Nat) (t : Ex) (j : Nat), 1 ≤ n → n ≤ 6 → lineP Rd Fd l f n i o = .ok t j → need n t + pc l i ≤ pc l j
  rest : ∀ (n : Nat) (t : Ex) (i o : Nat) (t' : Ex) (j a : Nat), 1 ≤ n → n ≤ 5 → restP Rd Fd l f n t i o = .ok t' j → need n t + a ≤ pc l i → need n t' + a ≤ pc l j
  sign : ∀ (i o : Nat) (t : Ex) (j : Nat), signP Rd Fd l f i o = .ok t j → need 6 t + pc l i ≤ pc l j
  prim : ∀ (i o : Nat) (t : Ex) (j : Nat), primP Rd Fd l f i o = .ok t j → need 7 t + pc l i ≤ pc l j
  args : ∀ (i o : Nat) (ts : List Ex) (j : Nat), argsP Rd Fd l f i o = .ok ts j → sumO ts + pc l i ≤ pc l j
  more : ∀ (ts : List Ex) (i o : Nat) (ts' : List Ex) (j a : Nat), moreP Rd Fd l f ts i o = .ok ts' j → sumO ts + a ≤ pc l i → sumO ts' + a ≤ pc l j
theorem few_all : ∀ f : Nat, Few Rd Fd l f
  | 0 => by
    refine ⟨?_, ?_, ?_, ?_, ?_, ?_⟩
    · intro n i o t j _ _ h; rw [lineP] at h; cases h
    · intro n t i o t' j a _ _ h; rw [restP] at h; cases h
    · intro i o t j h; rw [signP] at h; cases h
    · intro i o t j h; rw [primP] at h; cases h
    · intro i o ts j h; rw [argsP] at h; cases h
    · intro ts i o ts' j a h; rw [moreP] at h; cases h
  | f + 1 => by
    have ih := few_all f
    refine ⟨?_, ?_, ?_, ?_, ?_, ?_⟩
    · intro n i o t j h1 h6 h
      rw [lineP] at h
      by_cases h5 : 5 < n
      · rw [if_pos h5] at h
        have := ih.sign i o t j h
        obtain rfl : n = 6 := by omega
        exact this
      · rw [if_neg h5] at h
        cases hr : lineP Rd Fd l f (n + 1) i o with
        | bad e a => rw [hr] at h; cases h
        | ok u k =>
          rw [hr] at h
          have q := ih.line (n + 1) i o u k (by omega) (by omega) hr
          have m := need_mono (n := (n : Int)) (m := ((n + 1 : Nat) : Int)) (by omega) u
          exact ih.rest n u k o t j (pc l i) h1 (by omega) h (by omega)
    · intro n t i o t' j a h1 h5 h ha
      rw [restP] at h
      by_cases ho : (opOf (sgAt l i)).1 = n
      · rw [if_pos ho] at h
        cases hr : lineP Rd Fd l f (n + 1) (i + 1) o with
        | bad e b => rw [hr] at h; cases h
        | ok u k =>
          rw [hr] at h
          have q := ih.line (n + 1) (i + 1) o u k (by omega) (by omega) hr
          have hv := opOf_lv (sgAt l i) (by omega)
          rw [ho] at hv
          have hs := pc_succ l i
          refine ih.rest n _ k o t' j a h1 h5 h ?_
          rw [need_own (by rw [lv_bin, hv]; exact Int.le_refl _), cnt_bin, hv]
          rw [show ((n : Int) + 1) = ((n + 1 : Nat) : Int) by omega]
          omega
      · rw [if_neg ho] at h
        cases h
        exact ha
    · intro i o t j h
      rw [signP] at h
      generalize hJ : runW l (fun s => sgnOf s != 0) l.length i = J at h
      have hge : i ≤ J := by rw [← hJ]; exact runW_ge l _ _ _
      cases hr : primP Rd Fd l f J o with
      | bad e b => rw [hr] at h; cases h
      | ok u k =>
        rw [hr] at h
        have q := ih.prim J o u k hr
        injection h with e1 e2
        subst e1
        subst e2
        have m1 := pc_mono l hge
        refine Nat.le_trans (Nat.add_le_add_right (Nat.le_trans (few_signs _ _) (Nat.le_trans (need_mono (n := 6) (m := 7) (by decide) _) few_perc)) _) ?_
        exact Nat.le_trans (show need 7 u + pc l i ≤ pc l k by omega) (pc_mono l (runW_ge l _ _ _))
    · intro i o t j h
      have hs := pc_succ l i
      rw [primP] at h
      split at h
      · cases h; rw [leaf0 _ _ _ (by simp)]; omega
      · cases h; rw [leaf0 _ _ _ (by simp)]; omega
      · have hs2 := pc_succ l (i + 1)
        have hs3 := pc_succ l (i + 2)
        unfold refP at h
        split at h
        · split at h
          · injection h with h1 h2
            have h0 : need 7 t = 0 := by
              rw [← h1]
              cases Rd (wdAt l i).text with
              | none => exact ref0 _ (.inl rfl)
              | some a => cases Rd (wdAt l (i + 2)).text with
                | none => exact ref0 _ (.inl rfl)
                | some b => exact ref0 _ (.inr (.inr rfl))
            subst h2
            have m := pc_mono l (show i ≤ i + 3 by omega)
            rw [h0]
            omega
          · cases h
        · injection h with h1 h2
          have h0 : need 7 t = 0 := by
            rw [← h1]
            cases Rd (wdAt l i).text with
            | none => exact ref0 _ (.inl rfl)
            | some a => exact ref0 _ (.inr (.inl rfl))
          subst h2
          rw [h0]
          omega
      · split at h
        · cases h
        · split at h
          · rename_i h40
            split at h
            · cases h
            · cases hr : argsP Rd Fd l f (i + 2) (o + 1) with
              | bad e b => rw [hr] at h; cases h
              | ok ts k =>
                rw [hr] at h
                have q := ih.args (i + 2) (o + 1) ts k hr
                have p1 : pc l (i + 2) = pc l (i + 1) + 1 := pc_hit l h40
                have p2 := pc_succ l k
                simp only at h
                split at h
                · split at h
                  · cases h
                    rw [need_own (show (7 : Int) ≤ lv (callX _ ts).nd from (show lv (callX _ ts).nd = 8 from rfl) ▸ (by decide)), cnt_call]
                    omega
                  · cases h
                · cases h
          · cases h
      · cases h; rw [leaf0 _ _ _ (by simp)]; omega
      · cases h; rw [leaf0 _ _ _ (by simp)]; omega
      · split at h
        · rename_i h40
          split at h
          · cases h
          · cases hr : lineP Rd Fd l f 1 (i + 1) (o + 1) with
            | bad e b => rw [hr] at h; cases h
            | ok u k =>
              rw [hr] at h
              have q := ih.line 1 (i + 1) (o + 1) u k (by omega) (by omega) hr
              have p1 := pc_hit l h40
              have p2 := pc_succ l k
              simp only at h
              split at h
              · cases h
                have n1 := need_le 7 t
                have n2 := need_ge ((1 : Nat) : Int) t
                omega
              · cases h
        · cases h
      · cases h
    · intro i o ts j h
      rw [argsP] at h
      split at h
      · cases h
        show 0 + _ ≤ _
        omega
      · cases hr : lineP Rd Fd l f 1 i o with
        | bad e b => rw [hr] at h; cases h
        | ok u k =>
          rw [hr] at h
          have q := ih.line 1 i o u k (by omega) (by omega) hr
          have n2 := need_ge ((1 : Nat) : Int) u
          refine ih.more [u] k o ts j (pc l i) h ?_
          show cntO (tkE u) + 0 + pc l i ≤ pc l k
          omega
    · intro ts i o ts' j a h ha
      rw [moreP] at h
      split at h
      · cases hr : lineP Rd Fd l f 1 (i + 1) o with
        | bad e b => rw [hr] at h; cases h
        | ok u k =>
          rw [hr] at h
          have q := ih.line 1 (i + 1) o u k (by omega) (by omega) hr
          have n2 := need_ge ((1 : Nat) : Int) u
          have hs := pc_succ l i
          refine ih.more (ts ++ [u]) k o ts' j a h ?_
          rw [sumO_app]
          show sumO ts + (cntO (tkE u) + 0) + a ≤ pc l k
          omega
      · cases h
        exact ha
theorem few_form {t : Ex} {j : Nat} (h : formP Rd Fd l = .ok t j) : cntO (tkE t) ≤ cntO (l.map kt) := by
  unfold formP at h
  cases hr : lineP Rd Fd l (8 * l.length + 16) 1 0 0 with
  | bad e b => rw [hr] at h; cases h
  | ok u k =>
    rw [hr] at h
    have q := (few_all (Rd := Rd) (Fd := Fd) (l := l) _).line 1 0 0 u k (by omega) (by omega) hr
    have n2 := need_ge ((1 : Nat) : Int) u
    have n3 := pc_all l k
    simp only at h
    split at h
    · cases h
      omega
    · cases h
end
end Go.Proofs.YtbmnoiddklafkaaGreatDoor.T9
namespace Go.Proofs.YtbmnoiddklafkaaGreatDoor.T9
open Go.RowKit Go.Sort
set_option linter.unusedVariables false

theorem run_plain {c : UInt8} (h : isRun c = true) : c ≠ 34 ∧ c ≠ 40 := by
  refine ⟨?_, ?_⟩
  all_goals
    rintro rfl
    revert h
    decide
theorem bl_plain {c : UInt8} (h : blB c = true) : c ≠ 34 ∧ c ≠ 40 := by
  refine ⟨?_, ?_⟩
  all_goals
    rintro rfl
    revert h
    decide
theorem txt_open : ∀ (l b : List UInt8) (q n : Nat), txt l = some (b, q) → opL (n, true) (l.take q) = (n, false)
  | [], b, q, n, h => by simp [txt] at h
  | [c], b, q, n, h => by
    simp only [txt] at h
    split at h
    · next hc => cases h; rw [hc]; rfl
    · cases h
  | c :: d :: r, b, q, n, h => by
    rw [txt] at h
    split at h
    · next hc =>
      split at h
      · next hd =>
        rw [Option.map_eq_some_iff] at h
        obtain ⟨⟨b', n'⟩, h1, h2⟩ := h
        cases h2
        rw [show n' + 2 = (n' + 1) + 1 by omega, List.take_succ_cons, List.take_succ_cons, hc, hd, opL_cons, opL_cons]
        exact txt_open r b' n' n h1
      · next hd => cases h; rw [hc]; rfl
    · next hc =>
      rw [Option.map_eq_some_iff] at h
      obtain ⟨⟨b', n'⟩, h1, h2⟩ := h
      cases h2
      rw [List.take_succ_cons, opL_cons, show opB (n, true) c = (n, true) by unfold opB; rw [if_neg hc, if_pos rfl]]
      exact txt_open (d :: r) b' n' n h1
theorem sp_open : spelts.all (fun p => opL (0, false) p == ((if isO (spKind p, p) then 1 else 0), false)) = true := by decide +kernel
theorem tok_open {R : List UInt8 → Bool} {l : List UInt8} {k n : Nat} {t : List UInt8} (h : tok R l = .ok k t n) (m : Nat) : opL (m, false) (l.take n) = (m + (if isO (k, t) then 1 else 0), false) := by
  have hn := tok_len h
  have run : ∀ k, k ≠ 7 → runOf l = l.take n → opL (m, false) (l.take n) = (m + (if isO (k, t) then 1 else 0), false) := fun k hk e => by
    rw [← e, opL_plain m (fun c hc => run_plain (by
      unfold runOf at hc
      exact List.all_eq_true.1 List.all_takeWhile c hc))]
    rw [if_neg (by unfold isO; simp [hk])]; rfl
  rcases tok_cases h with ⟨rfl, _, _, _, e⟩ | ⟨rfl, h0, hx, h2⟩ | ⟨rfl, _, _, e, _⟩ | ⟨rfl, _, _, e, _⟩ | ⟨rfl, _, _, e⟩ | ⟨hk, hk2, e, hs, _⟩
  · exact run 1 (by decide) e
  · cases l with
    | nil => cases h0
    | cons c r =>
      simp at h0
      obtain ⟨q, rfl⟩ : ∃ q, n = q + 1 := ⟨n - 1, by omega⟩
      rw [List.take_succ_cons, h0, opL_cons, if_neg (by unfold isO; simp)]
      exact txt_open r t q m hx
  · exact run 3 (by decide) e
  · exact run 4 (by decide) e
  · exact run 5 (by decide) e
  · have := List.all_eq_true.1 sp_open t (sp_mem hs).1
    rw [beq_iff_eq] at this
    rw [← e, hk2, opL_sh, this]
theorem spn_open {R : List UInt8 → Bool} {L : List UInt8} : ∀ (ws : List Wd) (p m : Nat), Spn R L p ws → opL (m, false) (L.drop p) = (m + cntO (ws.map kt), false)
  | [], p, m, h => by
    refine opL_plain m fun c hc => bl_plain ?_
    obtain ⟨i, hi, e⟩ := List.mem_iff_getElem.1 hc
    rw [List.length_drop] at hi
    obtain ⟨d, h1, h2⟩ := h (p + i) (by omega) (by omega)
    rw [List.getElem_drop] at e
    rw [List.getElem?_eq_getElem (by omega)] at h1
    cases h1
    rw [← e]; exact h2
  | x :: ws, p, m, h => by
    obtain ⟨h1, h2, n, ht, _, hS⟩ := h
    have hn := tok_len ht
    rw [List.length_drop] at hn
    have e1 : L.drop p = (L.drop p).take (x.at' - p) ++ L.drop x.at' := by
      conv => lhs; rw [← List.take_append_drop (x.at' - p) (L.drop p)]
      rw [List.drop_drop, show p + (x.at' - p) = x.at' by omega]
    have e2 : L.drop x.at' = (L.drop x.at').take n ++ L.drop (x.at' + n) := by
      conv => lhs; rw [← List.take_append_drop n (L.drop x.at')]
      rw [List.drop_drop]
    have g : opL (m, false) ((L.drop p).take (x.at' - p)) = (m, false) := by
      refine opL_plain m fun c hc => bl_plain ?_
      obtain ⟨i, hi, e⟩ := List.mem_iff_getElem.1 hc
      rw [List.length_take, List.length_drop] at hi
      obtain ⟨d, q1, q2⟩ := h2 (p + i) (by omega) (by omega)
      rw [List.getElem_take, List.getElem_drop] at e
      rw [List.getElem?_eq_getElem (by omega)] at q1
      cases q1
      rw [← e]; exact q2
    rw [e1, opL_app, g, e2, opL_app, tok_open ht, spn_open ws _ _ hS, List.map_cons, cntO_cons]
    have : isO (kt x) = isO (x.kind, x.text) := rfl
    rw [this, Nat.add_assoc, Nat.add_comm (cntO _)]
theorem cut_open {s : List UInt8} {ws : List Wd} (h : cutR (ba s) = .ok ws) : (opL (0, false) s).1 = cntO (ws.map kt) := by
  unfold cutR at h
  split at h
  · cases h
  · rw [ba_list] at h
    obtain ⟨l, e, hs⟩ := cut_spn refL s _ 0 [] ws (Nat.le_refl _) (Nat.zero_le _) h
    rw [List.nil_append] at e
    subst e
    have := spn_open ws 0 0 hs
    rw [List.drop_zero] at this
    rw [this]; simp
/-- Without one pair it is the text of another tree, or of none. -/
theorem few_strike {t : Ex} (h : mayR t = 0) (hN : NumE t) {k i : Nat} (hk : 0 < k) (hp : Pair (61 :: txE t) k i) {u : Ex} {j : Nat} (hu : parR (ba (strike (61 :: txE t) k i)) = .ok u j) : ¬ u = t := by
  intro e
  have hs := strike_open hp
  have h0 : strike (61 :: txE t) k i = 61 :: ((txE t).take (k - 1) ++ ((61 :: txE t).drop (k + 1)).take (i - (k + 1)) ++ (61 :: txE t).drop (i + 1)) := by
    unfold strike
    obtain ⟨q, rfl⟩ : ∃ q, k = q + 1 := ⟨k - 1, by omega⟩
    rw [List.take_succ_cons, Nat.add_sub_cancel]
    rfl
  generalize (txE t).take (k - 1) ++ ((61 :: txE t).drop (k + 1)).take (i - (k + 1)) ++ (61 :: txE t).drop (i + 1) = r at h0
  rw [h0] at hs hu
  rw [opL_cons, opL_cons, show opB (0, false) 61 = (0, false) from rfl, cut_open (cut_back h hN), words_kt] at hs
  unfold parR at hu
  rw [ba_list] at hu
  unfold parL at hu
  simp only [if_true] at hu
  cases hc : cutR (ba r) with
  | bad i e => rw [hc] at hu; cases hu
  | ok ws =>
    rw [hc] at hu
    rw [cut_open hc] at hs
    unfold wdsR at hu
    simp only at hu
    cases hf : formP rdF Fd0 (allW ws (ba (61 :: r)).size) with
    | bad e a => rw [hf] at hu; cases hu
    | ok t' j' =>
      rw [hf] at hu
      have hq := few_form hf
      unfold mayP at hu
      simp only at hu
      split at hu
      · cases hu
        rw [e] at hq
        unfold allW at hq
        rw [List.map_append, List.map_map, show (kt ∘ fun x : Wd => ({ x with at' := x.at' + 1 } : Wd)) = kt from rfl, cntO_app] at hq
        have : cntO (List.map kt [⟨0, [], (ba (61 :: r)).size⟩]) = 0 := rfl
        omega
      · cases hu
end Go.Proofs.YtbmnoiddklafkaaGreatDoor.T9
