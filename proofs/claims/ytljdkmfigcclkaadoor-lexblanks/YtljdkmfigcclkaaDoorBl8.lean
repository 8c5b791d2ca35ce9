/- Words written with blanks between are the same words; of no program. -/
import Derived.Test.YtljdkmfigcclkaaDoorSpn8
namespace Go.Proofs.YtljdkmfigcclkaaDoor
open Go.RowKit
set_option linter.unusedVariables false

/-- Each quote twice. -/
def dbl (t : List UInt8) : List UInt8 := t.flatMap fun c => if c = 34 then [34, 34] else [c]
/-- A word as it is written. -/
def spl (x : Wd) : List UInt8 := if x.kind = 2 then [34] ++ dbl x.text ++ [34] else x.text
/-- A word that stands by itself. -/
def Good (R : List UInt8 → Bool) (k : Nat) (t : List UInt8) : Prop :=
  (k = 1 ∧ t ≠ [] ∧ dgs t = true ∧ trim0 t = t ∧ val t ≤ 9223372036854775807) ∨ k = 2 ∨
  (k = 3 ∧ t ≠ [] ∧ R t = true ∧ t.all isRun = true ∧ (∀ c, t.head? = some c → dig c = false)) ∨
  (k = 4 ∧ t ≠ [] ∧ upp t = t ∧ plainN t = true ∧ t.all isRun = true ∧ (∀ c, t.head? = some c → dig c = false)) ∨
  (k = 5 ∧ (t = truL ∨ t = falL)) ∨ ((k = 6 ∨ k = 7) ∧ k = spKind t ∧ t ∈ spelts)
/-- What may stand behind it: nothing, a blank, or behind a function's name its parenthesis. -/
def Behind (k : Nat) (rest : List UInt8) : Prop := if k = 4 then rest.head? = some 40 else rest = [] ∨ 0 < bl rest
theorem bl_head {l : List UInt8} (h : 0 < bl l) : ∃ c, l.head? = some c ∧ isRun c = false ∧ c ≠ 34 ∧ c ≠ 61 ∧ c ≠ 62 ∧ c ≠ 40 := by
  obtain ⟨c, h1, h2⟩ := bl_bytes l 0 h
  refine ⟨c, by rw [List.head?_eq_getElem?]; exact h1, ?_⟩
  unfold blB at h2
  simp only [Bool.or_eq_true, beq_iff_eq] at h2
  rcases h2 with rfl | rfl | rfl | rfl | rfl | rfl | rfl | rfl <;> decide
theorem run_app {t rest : List UInt8} (ht : t.all isRun = true) (hr : ∀ c, rest.head? = some c → isRun c = false) : runOf (t ++ rest) = t := by
  unfold runOf
  induction t with
  | nil =>
    cases rest with
    | nil => rfl
    | cons c r => rw [List.nil_append, List.takeWhile_cons, hr c rfl]; rfl
  | cons c t ih =>
    rw [List.all_cons, Bool.and_eq_true] at ht
    rw [List.cons_append, List.takeWhile_cons, if_pos ht.1, ih ht.2]
theorem dgs_run {t : List UInt8} (h : dgs t = true) : t.all isRun = true := by
  unfold dgs at h
  rw [List.all_eq_true] at h ⊢
  intro c hc
  unfold isRun
  rw [h c hc]; rfl
theorem txt_dbl : ∀ (t rest : List UInt8), rest.head? ≠ some 34 → txt (dbl t ++ 34 :: rest) = some (t, (dbl t).length + 1)
  | [], rest, h => by
    cases rest with
    | nil => rfl
    | cons d r =>
      have hd : d ≠ 34 := fun e => h (by rw [e]; rfl)
      simp [dbl, txt, hd]
  | c :: t, rest, h => by
    have ih := txt_dbl t rest h
    have hd : dbl (c :: t) = (if c = 34 then [34, 34] else [c]) ++ dbl t := by simp [dbl]
    rw [hd]
    by_cases hc : c = 34
    · subst hc
      rw [if_pos rfl]
      show txt (34 :: 34 :: (dbl t ++ 34 :: rest)) = _
      rw [txt, if_pos rfl, if_pos rfl, ih]
      simp
    · rw [if_neg hc]
      show txt (c :: (dbl t ++ 34 :: rest)) = _
      cases hq : dbl t ++ 34 :: rest with
      | nil => simp at hq
      | cons d r =>
        rw [txt, if_neg hc, ← hq, ih]
        simp
theorem sp_app {p rest : List UInt8} (hp : p ∈ spelts) (hr : rest = [] ∨ ∃ c r, rest = c :: r ∧ c ≠ 61 ∧ c ≠ 62) : spFind (p ++ rest) = some p := by
  unfold spelts at hp
  simp only [List.mem_cons, List.not_mem_nil, or_false] at hp
  rcases hr with rfl | ⟨c, r, rfl, h1, h2⟩
  · rcases hp with rfl | rfl | rfl | rfl | rfl | rfl | rfl | rfl | rfl | rfl | rfl | rfl | rfl | rfl | rfl | rfl | rfl | rfl | rfl | rfl | rfl | rfl | rfl <;> rfl
  · have h1' : ((61 : UInt8) == c) = false := by rw [beq_eq_false_iff_ne]; exact fun e => h1 e.symm
    have h2' : ((62 : UInt8) == c) = false := by rw [beq_eq_false_iff_ne]; exact fun e => h2 e.symm
    rcases hp with rfl | rfl | rfl | rfl | rfl | rfl | rfl | rfl | rfl | rfl | rfl | rfl | rfl | rfl | rfl | rfl | rfl | rfl | rfl | rfl | rfl | rfl | rfl <;>
      simp [spFind, spelts, Lib.hasPrefix, List.isPrefixOf, h1', h2']
theorem sp_no_run : spelts.all (fun p => (p.head?.map fun c => !isRun c && c != 34).getD false) = true := by decide +kernel
theorem calls_of {rest : List UInt8} (h : rest = [] ∨ 0 < bl rest) : callsL rest = false := by
  rcases h with rfl | h
  · rfl
  · obtain ⟨c, h1, _, _, _, _, h40⟩ := bl_head h
    cases rest with
    | nil => cases h1
    | cons d r =>
      cases h1
      unfold callsL Lib.hasPrefix
      simp [List.isPrefixOf]
      exact fun e => h40 e.symm
theorem run_behind {k : Nat} {rest : List UInt8} (h : Behind k rest) : ∀ c, rest.head? = some c → isRun c = false := by
  intro c hc
  unfold Behind at h
  split at h
  · rw [h] at hc; cases hc; decide
  · rcases h with rfl | h
    · cases hc
    · obtain ⟨d, h1, h2, _⟩ := bl_head h
      rw [h1] at hc; cases hc; exact h2
theorem tok_good {R : List UInt8 → Bool} (hR : ∀ t, R t = true → upp t ≠ truL ∧ upp t ≠ falL) {x : Wd} (hg : Good R x.kind x.text) {rest : List UInt8} (hb : Behind x.kind rest) :
    tok R (spl x ++ rest) = .ok x.kind x.text (spl x).length := by
  obtain ⟨k, t, a⟩ := x
  simp only at hg hb ⊢
  have hrn := run_behind hb
  have run : ∀ (hk : k ≠ 2) (hne : t ≠ []) (ha : t.all isRun = true), tok R (spl ⟨k, t, a⟩ ++ rest) = runTok R t (callsL rest) := fun hk hne ha => by
    have hsp : spl ⟨k, t, a⟩ = t := by unfold spl; rw [if_neg hk]
    rw [hsp]
    have hro := run_app ha hrn
    cases ht : t with
    | nil => exact absurd ht hne
    | cons c r =>
      rw [ht] at ha hro
      rw [List.all_cons, Bool.and_eq_true] at ha
      unfold tok
      rw [List.cons_append] at hro ⊢
      simp only
      rw [if_pos ha.1, hro, ← List.cons_append, List.drop_left]
  rcases hg with ⟨rfl, hne, hd, htr, hv⟩ | rfl | ⟨rfl, hne, hr, ha, hdg⟩ | ⟨rfl, hne, hu, hpl, ha, hdg⟩ | ⟨rfl, ht⟩ | ⟨hk, hsk, hm⟩
  · rw [run (by decide) hne (dgs_run hd)]
    have hsp : spl ⟨1, t, a⟩ = t := rfl
    rw [hsp]
    unfold runTok
    cases t with
    | nil => exact absurd rfl hne
    | cons c r =>
      have hc : dig c = true := by unfold dgs at hd; rw [List.all_cons, Bool.and_eq_true] at hd; exact hd.1
      simp only [List.head?_cons, Option.map_some, Option.getD_some, hc, if_pos]
      unfold numTok
      rw [if_pos hd, htr, if_pos hv]
  · unfold Behind at hb
    rw [if_neg (by decide)] at hb
    have hh : rest.head? ≠ some 34 := by
      rcases hb with rfl | hb
      · simp
      · obtain ⟨c, h1, _, h34, _⟩ := bl_head hb
        rw [h1]; exact fun e => h34 (Option.some.inj e)
    have hsp : spl ⟨2, t, a⟩ = 34 :: (dbl t ++ [34]) := rfl
    rw [hsp, List.cons_append, List.append_assoc]
    unfold tok
    simp only
    rw [if_neg (by decide), if_pos trivial]
    unfold txtTok
    rw [show ([34] : List UInt8) ++ rest = 34 :: rest from rfl, txt_dbl t rest hh]
    simp
  · unfold Behind at hb
    rw [if_neg (by decide)] at hb
    rw [run (by decide) hne ha, calls_of hb]
    have hsp : spl ⟨3, t, a⟩ = t := rfl
    rw [hsp]
    unfold runTok
    cases t with
    | nil => exact absurd rfl hne
    | cons c r =>
      have := hdg c rfl
      simp only [List.head?_cons, Option.map_some, Option.getD_some, this]
      unfold namTok
      obtain ⟨h1, h2⟩ := hR _ hr
      rw [if_neg (by decide), if_neg (by simp [h1, h2]), if_neg (by simp), if_pos hr]
  · unfold Behind at hb
    rw [if_pos rfl] at hb
    have hca : callsL rest = true := by
      cases rest with
      | nil => cases hb
      | cons c r => cases hb; rfl
    rw [run (by decide) hne ha, hca]
    have hsp : spl ⟨4, t, a⟩ = t := rfl
    rw [hsp]
    unfold runTok
    cases t with
    | nil => exact absurd rfl hne
    | cons c r =>
      have := hdg c rfl
      simp only [List.head?_cons, Option.map_some, Option.getD_some, this]
      unfold namTok
      rw [if_neg (by decide), if_neg (by simp), if_pos (by simp [hpl]), hu]
  · unfold Behind at hb
    rw [if_neg (by decide)] at hb
    rw [run (by decide) (by rcases ht with rfl | rfl <;> decide) (by rcases ht with rfl | rfl <;> decide), calls_of hb]
    have hsp : spl ⟨5, t, a⟩ = t := rfl
    rw [hsp]
    rcases ht with rfl | rfl <;> rfl
  · have hk2 : k ≠ 2 := by omega
    have hk4 : k ≠ 4 := by omega
    unfold Behind at hb
    rw [if_neg hk4] at hb
    have hsp : spl ⟨k, t, a⟩ = t := by unfold spl; rw [if_neg hk2]
    rw [hsp]
    have hq := List.all_eq_true.1 sp_no_run t hm
    have hf : spFind (t ++ rest) = some t := sp_app hm (by
      rcases hb with rfl | hb
      · exact .inl rfl
      · obtain ⟨c, h1, _, _, h61, h62, _⟩ := bl_head hb
        cases rest with
        | nil => cases h1
        | cons d r => cases h1; exact .inr ⟨_, _, rfl, h61, h62⟩)
    cases t with
    | nil => simp at hq
    | cons c r =>
      simp only [List.head?_cons, Option.map_some, Option.getD_some, Bool.and_eq_true, Bool.not_eq_true', bne_iff_ne] at hq
      rw [List.cons_append] at hf ⊢
      unfold tok
      simp only
      rw [if_neg (by rw [hq.1]; decide), if_neg hq.2]
      unfold spTok
      rw [hf, hsk]
theorem trim0_trim (r : List UInt8) (h : dgs r = true) (hne : r ≠ []) : trim0 (trim0 r) = trim0 r ∧ trim0 r ≠ [] ∧ dgs (trim0 r) = true := by
  have hm : ∀ c ∈ r.dropWhile (· == 48), c ∈ r := fun c hc => (List.dropWhile_suffix _).subset hc
  unfold trim0
  cases hq : r.dropWhile (· == 48) with
  | nil => refine ⟨?_, ?_, ?_⟩ <;> simp [List.dropWhile, dgs, dig]
  | cons c l =>
    have hc : (c == 48) = false := by
      have := List.head_dropWhile_not (p := fun x : UInt8 => x == 48) (l := r) (by rw [hq]; simp)
      simpa [hq] using this
    refine ⟨?_, by simp, ?_⟩
    · simp [hc]
    · simp only [List.isEmpty_cons]
      unfold dgs at h ⊢
      rw [List.all_eq_true] at h
      simp only [Bool.false_eq_true, if_false]
      rw [List.all_eq_true]
      intro x hx
      exact h x (hm x (by rw [hq]; exact hx))
theorem up_all : ∀ n : Fin 256, (Lib.upperB (Lib.upperB (UInt8.ofNat n.val)) == Lib.upperB (UInt8.ofNat n.val)) = true ∧ dig (Lib.upperB (UInt8.ofNat n.val)) = dig (UInt8.ofNat n.val) ∧
    (!(isL (UInt8.ofNat n.val) || dig (UInt8.ofNat n.val)) || ((isL (Lib.upperB (UInt8.ofNat n.val)) || dig (Lib.upperB (UInt8.ofNat n.val))) && isRun (Lib.upperB (UInt8.ofNat n.val)))) = true := by decide +kernel
theorem up8 (c : UInt8) : Lib.upperB (Lib.upperB c) = Lib.upperB c ∧ dig (Lib.upperB c) = dig c ∧ ((isL c || dig c) = true → (isL (Lib.upperB c) || dig (Lib.upperB c)) = true ∧ isRun (Lib.upperB c) = true) := by
  have h := up_all ⟨c.toNat, c.toNat_lt⟩
  rw [UInt8.ofNat_toNat] at h
  refine ⟨by simpa using h.1, h.2.1, fun e => ?_⟩
  have h3 := h.2.2
  rw [e] at h3
  simpa using h3
theorem good_of {R : List UInt8 → Bool} {l : List UInt8} {k n : Nat} {t : List UInt8} (h : tok R l = .ok k t n) : Good R k t := by
  have hl := tok_len h
  have hne : l.take n ≠ [] := by
    intro e
    have := congrArg List.length e
    rw [List.length_take, List.length_nil] at this
    omega
  have hall : runOf l = l.take n → (l.take n).all isRun = true := fun e => by rw [← e]; unfold runOf; exact List.all_takeWhile
  have hhd : (l.take n).head? = l.head? := by
    cases l with
    | nil => simp
    | cons c r => obtain ⟨m, rfl⟩ : ∃ m, n = m + 1 := ⟨n - 1, by omega⟩; rfl
  rcases tok_cases h with ⟨rfl, rfl, hd, hv, hr⟩ | ⟨rfl, _⟩ | ⟨rfl, rfl, hR, hr, hc⟩ | ⟨rfl, rfl, hp, hr, _, hc⟩ | ⟨rfl, rfl, ht, _⟩ | ⟨hk, hs, rfl, hf, hn⟩
  · obtain ⟨h1, h2, h3⟩ := trim0_trim _ hd hne
    exact .inl ⟨rfl, h2, h3, h1, hv⟩
  · exact .inr (.inl rfl)
  · exact .inr (.inr (.inl ⟨rfl, hne, hR, hall hr, fun c e => (hc c (by rw [← hhd]; exact e)).2⟩))
  · refine .inr (.inr (.inr (.inl ⟨rfl, ?_, ?_, ?_, ?_, ?_⟩)))
    · unfold upp; simpa using hne
    · unfold upp; rw [List.map_map]; exact List.map_congr_left fun c _ => (up8 c).1
    · unfold plainN upp at *
      rw [List.all_eq_true] at hp ⊢
      intro c hc'
      obtain ⟨d, hd, rfl⟩ := List.mem_map.1 hc'
      exact ((up8 d).2.2 (hp d hd)).1
    · unfold plainN at hp
      unfold upp
      rw [List.all_eq_true] at hp ⊢
      intro c hc'
      obtain ⟨d, hd, rfl⟩ := List.mem_map.1 hc'
      exact ((up8 d).2.2 (hp d hd)).2
    · intro c e
      unfold upp at e
      rw [List.head?_map, hhd] at e
      cases hl0 : l.head? with
      | none => rw [hl0] at e; cases e
      | some d => rw [hl0] at e; cases e; rw [(up8 d).2.1]; exact (hc d hl0).2
  · exact .inr (.inr (.inr (.inr (.inl ⟨rfl, ht⟩))))
  · exact .inr (.inr (.inr (.inr (.inr ⟨hk, hs, (sp_mem hf).1⟩))))
/-- The eight blanks. -/
def blks : List (List UInt8) := [[32], [9], [10], [13], [194, 160], [227, 128, 128], [32, 32], [32, 194, 160, 9]]
theorem blk_bl {b rest : List UInt8} (h : b ∈ blks) : 0 < bl (b ++ rest) := by
  unfold blks at h
  simp only [List.mem_cons, List.not_mem_nil, or_false] at h
  rcases h with rfl | rfl | rfl | rfl | rfl | rfl | rfl | rfl <;> simp [bl]
theorem blk_cut (R : List UInt8 → Bool) {b rest : List UInt8} (h : b ∈ blks) (i : Nat) (acc : List Wd) : cutA R (b ++ rest) i acc = cutA R rest (i + b.length) acc := by
  unfold blks at h
  simp only [List.mem_cons, List.not_mem_nil, or_false] at h
  have one : ∀ (c : UInt8) (l : List UInt8) (j : Nat), (c = 9 ∨ c = 10 ∨ c = 13 ∨ c = 32) → cutA R (c :: l) j acc = cutA R l (j + 1) acc := fun c l j hc => by
    have hb : bl (c :: l) = 1 := by rw [bl, if_pos hc]
    rw [cut_blank R (by rw [hb]; decide), hb]; rfl
  have two : ∀ (l : List UInt8) (j : Nat), cutA R (194 :: 160 :: l) j acc = cutA R l (j + 2) acc := fun l j => by
    have hb : bl (194 :: 160 :: l) = 2 := by simp [bl]
    rw [cut_blank R (by rw [hb]; decide), hb]; rfl
  have three : ∀ (l : List UInt8) (j : Nat), cutA R (227 :: 128 :: 128 :: l) j acc = cutA R l (j + 3) acc := fun l j => by
    have hb : bl (227 :: 128 :: 128 :: l) = 3 := by simp [bl]
    rw [cut_blank R (by rw [hb]; decide), hb]; rfl
  rcases h with rfl | rfl | rfl | rfl | rfl | rfl | rfl | rfl
  · exact one _ _ _ (by decide)
  · exact one _ _ _ (by decide)
  · exact one _ _ _ (by decide)
  · exact one _ _ _ (by decide)
  · exact two _ _
  · exact three _ _
  · exact (one _ _ _ (by decide)).trans (one _ _ _ (by decide))
  · exact (one _ _ _ (by decide)).trans ((two _ _).trans (one _ _ _ (by decide)))
/-- What is written: the words from the one at i on, p the kind of the one ahead (4 at the front), q what stands between. -/
def bld (q : Nat → List UInt8) : Nat → Nat → List Wd → List UInt8
  | p, i, [] => []
  | p, i, x :: l => (if p = 4 then [] else q i) ++ spl x ++ bld q x.kind (i + 1) l
/-- The same words, each where it is written. -/
def bls (q : Nat → List UInt8) : Nat → Nat → Nat → List Wd → List Wd
  | p, i, a, [] => []
  | p, i, a, x :: l => { x with at' := a + (if p = 4 then [] else q i).length } :: bls q x.kind (i + 1) (a + ((if p = 4 then [] else q i) ++ spl x).length) l
/-- Words that stand by themselves; a function's name has its parenthesis behind it. -/
def Goods (R : List UInt8 → Bool) : List Wd → Prop
  | [] => True
  | x :: l => Good R x.kind x.text ∧ (x.kind = 4 → ∃ y m, l = y :: m ∧ y.kind = 7 ∧ y.text = [40]) ∧ Goods R l
theorem sp_no_bl : spelts.all (fun p => (p.head?.map fun c => !blB c).getD false) = true := by decide +kernel
theorem run_no_bl : ∀ n : Fin 256, (!isRun (UInt8.ofNat n.val) || !blB (UInt8.ofNat n.val)) = true := by decide +kernel
theorem bl_first {c : UInt8} {l : List UInt8} (h : blB c = false) : bl (c :: l) = 0 := by
  rcases Nat.eq_zero_or_pos (bl (c :: l)) with h0 | h0
  · exact h0
  · obtain ⟨d, h1, h2⟩ := bl_bytes _ 0 h0
    cases h1
    rw [h] at h2; cases h2
theorem run_blB {c : UInt8} (h : isRun c = true) : blB c = false := by
  have := run_no_bl ⟨c.toNat, c.toNat_lt⟩
  rw [UInt8.ofNat_toNat, h] at this
  simpa using this
theorem spl_head {R : List UInt8 → Bool} {x : Wd} (h : Good R x.kind x.text) : ∃ c r, spl x = c :: r ∧ blB c = false := by
  obtain ⟨k, t, a⟩ := x
  simp only at h
  have run : ∀ (hk : k ≠ 2) (hne : t ≠ []) (ha : t.all isRun = true), ∃ c r, spl ⟨k, t, a⟩ = c :: r ∧ blB c = false := fun hk hne ha => by
    cases t with
    | nil => exact absurd rfl hne
    | cons c r => rw [List.all_cons, Bool.and_eq_true] at ha; exact ⟨c, r, by unfold spl; rw [if_neg hk], run_blB ha.1⟩
  rcases h with ⟨rfl, hne, hd, _⟩ | rfl | ⟨rfl, hne, _, ha, _⟩ | ⟨rfl, hne, _, _, ha, _⟩ | ⟨rfl, ht⟩ | ⟨hk, hsk, hm⟩
  · exact run (by decide) hne (dgs_run hd)
  · exact ⟨34, _, rfl, rfl⟩
  · exact run (by decide) hne ha
  · exact run (by decide) hne ha
  · exact run (by decide) (by rcases ht with rfl | rfl <;> decide) (by rcases ht with rfl | rfl <;> decide)
  · have hq := List.all_eq_true.1 sp_no_bl t hm
    cases t with
    | nil => simp at hq
    | cons c r => exact ⟨c, r, by unfold spl; rw [if_neg (show ¬ k = 2 by omega)], by simpa using hq⟩
theorem bl_app {R : List UInt8 → Bool} {x : Wd} (h : Good R x.kind x.text) {rest : List UInt8} : bl (spl x ++ rest) = 0 := by
  obtain ⟨c, r, e, hc⟩ := spl_head h
  rw [e, List.cons_append]; exact bl_first hc
theorem bld_cut {R : List UInt8 → Bool} (hR : ∀ t, R t = true → upp t ≠ truL ∧ upp t ≠ falL) (q : Nat → List UInt8) (hq : ∀ i, q i ∈ blks) : ∀ (l : List Wd) (p i a : Nat) (acc : List Wd), Goods R l → cutA R (bld q p i l) a acc = .ok (acc ++ bls q p i a l)
  | [], p, i, a, acc, h => by simp [bld, bls, cut_end]
  | x :: l, p, i, a, acc, h => by
    obtain ⟨h1, h2, h3⟩ := h
    have hb : Behind x.kind (bld q x.kind (i + 1) l) := by
      unfold Behind
      split
      · next h4 =>
        obtain ⟨y, m, rfl, h5, h6⟩ := h2 h4
        rw [h4, bld, if_pos rfl]
        unfold spl
        rw [h5, if_neg (by decide), h6]; rfl
      · next h4 =>
        cases l with
        | nil => exact .inl rfl
        | cons y m => rw [bld, if_neg h4, List.append_assoc]; exact .inr (blk_bl (hq _))
    have ht := tok_good hR h1 hb
    rw [bld, bls]
    have go : ∀ (b : List UInt8) (hbb : b = [] ∨ b ∈ blks), cutA R (b ++ spl x ++ bld q x.kind (i + 1) l) a acc = .ok (acc ++ ({ x with at' := a + b.length } :: bls q x.kind (i + 1) (a + (b ++ spl x).length) l)) := fun b hbb => by
      have e1 : cutA R (b ++ spl x ++ bld q x.kind (i + 1) l) a acc = cutA R (spl x ++ bld q x.kind (i + 1) l) (a + b.length) acc := by
        rcases hbb with rfl | hbb
        · rfl
        · rw [List.append_assoc]; exact blk_cut R hbb _ _
      rw [e1, cut_word R (bl_app h1) ht, List.drop_left, bld_cut hR q hq l _ _ _ _ h3, List.length_append, Nat.add_assoc]
      simp
    split
    · exact go [] (.inl rfl)
    · exact go (q i) (.inr (hq i))
end Go.Proofs.YtljdkmfigcclkaaDoor
