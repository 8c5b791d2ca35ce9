/- Words written with small letters and with blanks between are the same words, but for how a reference is spelt; of no program. A formula's words written with blanks between and small letters are cut into the same words, but for how a reference is spelt; of no program. A reference in small letters is the same reference; of no program. What is written word by word: one word more; of no program. Where a formula's words begin: one behind the other, each within the text; of no program. -/
import Derived.Test.YtdlomdbmmhjppaaGreatDoorSpJ
import Derived.Test.YtdlomdbmmhjppaaGreatDoorRuJ
import Derived.Test.YtdlomdbmmhjppaaGreatDoorBlJ
namespace Go.Proofs.YtdlomdbmmhjppaaGreatDoor
open Go.RowKit
set_option linter.unusedVariables false

/-- A word as it is written, and as it is read again. -/
def spS (b : Bool) (x : Wd) : List UInt8 := if x.kind = 2 then [34] ++ dbl x.text ++ [34] else x.text.map (lowF x.kind b)
def rdW (b : Bool) (x : Wd) : Wd := if x.kind = 3 then { x with text := x.text.map (lowF 3 b) } else x
theorem rdW_kind (b : Bool) (x : Wd) : (rdW b x).kind = x.kind := by unfold rdW; split <;> rfl
theorem lowF_same {k : Nat} {b : Bool} (h : ¬ (k = 3 ∨ k = 4 ∨ k = 5)) (t : List UInt8) : t.map (lowF k b) = t := by
  conv => rhs; rw [← List.map_id t]
  apply List.map_congr_left
  intro c _
  unfold lowF
  rw [if_neg (fun q => h q.2.1)]
  rfl
theorem low_all : ∀ n : Fin 256, (Lib.upperB (lowF 4 true (UInt8.ofNat n.val)) == Lib.upperB (UInt8.ofNat n.val)) = true ∧ dig (lowF 4 true (UInt8.ofNat n.val)) = dig (UInt8.ofNat n.val) ∧ ((!(isL (UInt8.ofNat n.val) || dig (UInt8.ofNat n.val))) || (isL (lowF 4 true (UInt8.ofNat n.val)) || dig (lowF 4 true (UInt8.ofNat n.val)))) = true ∧ ((!isRun (UInt8.ofNat n.val)) || isRun (lowF 4 true (UInt8.ofNat n.val))) = true := by
  decide +kernel
theorem lowF_k {k : Nat} (h : k = 3 ∨ k = 4 ∨ k = 5) (b : Bool) (c : UInt8) : lowF k b c = lowF 4 b c := by
  unfold lowF
  rcases h with rfl | rfl | rfl <;> simp
theorem lowF_no (k : Nat) (c : UInt8) : lowF k false c = c := by unfold lowF; rw [if_neg (fun q => by cases q.1)]
theorem low_false (k : Nat) (t : List UInt8) : t.map (lowF k false) = t := by
  conv => rhs; rw [← List.map_id t]
  exact List.map_congr_left fun c _ => lowF_no k c
theorem low8 (b : Bool) (c : UInt8) : Lib.upperB (lowF 4 b c) = Lib.upperB c ∧ dig (lowF 4 b c) = dig c ∧ ((isL c || dig c) = true → (isL (lowF 4 b c) || dig (lowF 4 b c)) = true) ∧ (isRun c = true → isRun (lowF 4 b c) = true) := by
  cases b
  · rw [lowF_no]; exact ⟨rfl, rfl, id, id⟩
  · obtain ⟨h1, h2, h3, h4⟩ := low_all ⟨c.toNat, c.toNat_lt⟩
    simp only [UInt8.ofNat_toNat] at h1 h2 h3 h4
    refine ⟨by simpa using h1, h2, fun h => ?_, fun h => ?_⟩
    · rw [h] at h3; simpa using h3
    · rw [h] at h4; simpa using h4
theorem low_upp (b : Bool) (t : List UInt8) : upp (t.map (lowF 4 b)) = upp t := by
  unfold upp
  rw [List.map_map]
  apply List.map_congr_left
  intro c _
  exact (low8 b c).1
theorem low_run (b : Bool) {t : List UInt8} (h : t.all isRun = true) : (t.map (lowF 4 b)).all isRun = true := by
  rw [List.all_map]
  exact List.all_eq_true.2 fun c hc => (low8 b c).2.2.2 (List.all_eq_true.1 h c hc)
theorem low_plain (b : Bool) {t : List UInt8} (h : plainN t = true) : plainN (t.map (lowF 4 b)) = true := by
  unfold plainN at h ⊢
  rw [List.all_map]
  exact List.all_eq_true.2 fun c hc => (low8 b c).2.2.1 (List.all_eq_true.1 h c hc)
theorem low_head (b : Bool) {t : List UInt8} (h : ∀ c, t.head? = some c → dig c = false) : ∀ c, (t.map (lowF 4 b)).head? = some c → dig c = false := by
  cases t with
  | nil => intro c e; cases e
  | cons d r =>
    intro c e
    have : lowF 4 b d = c := by simpa using e
    rw [← this, (low8 b d).2.1]
    exact h d rfl
theorem low_eq {k : Nat} (h : k = 3 ∨ k = 4 ∨ k = 5) (b : Bool) (t : List UInt8) : t.map (lowF k b) = t.map (lowF 4 b) := List.map_congr_left fun c _ => lowF_k h b c
/-- What is read again. -/
theorem tok_low {R : List UInt8 → Bool} (hR : ∀ t, R t = true → upp t ≠ truL ∧ upp t ≠ falL) (hL : ∀ t, R t = true → R (t.map (lowF 4 true)) = true) (b : Bool) {x : Wd} (hg : Good R x.kind x.text) {rest : List UInt8} (hb : Behind x.kind rest) :
    tok R (spS b x ++ rest) = .ok x.kind (rdW b x).text (spS b x).length := by
  obtain ⟨k, t, a⟩ := x
  simp only at hg hb ⊢
  by_cases hk : k = 3 ∨ k = 4 ∨ k = 5
  · have hs : spS b ⟨k, t, a⟩ = t.map (lowF 4 b) := by
      unfold spS
      rw [if_neg (by show ¬ k = 2; omega)]
      exact low_eq hk b t
    rcases hk with rfl | rfl | rfl
    · have hr : (rdW b ⟨3, t, a⟩).text = t.map (lowF 4 b) := by
        unfold rdW
        rw [if_pos rfl]
        exact low_eq (.inl rfl) b t
      have hg3 : Good R 3 (t.map (lowF 4 b)) := by
        rcases hg with ⟨h, _⟩ | h | ⟨_, hne, hrt, ha, hdg⟩ | ⟨h, _⟩ | ⟨h, _⟩ | ⟨h, _⟩
        · cases h
        · cases h
        · refine .inr (.inr (.inl ⟨rfl, fun e => hne (by simpa using e), ?_, low_run b ha, low_head b hdg⟩))
          cases b
          · rw [low_false]; exact hrt
          · exact hL t hrt
        · cases h
        · cases h
        · omega
      have := tok_good hR (x := ⟨3, t.map (lowF 4 b), a⟩) hg3 hb
      rw [hs, hr]
      exact this
    · have hr : (rdW b ⟨4, t, a⟩).text = t := rfl
      rcases hg with ⟨h, _⟩ | h | ⟨h, _⟩ | ⟨_, hne, hu, hpl, ha, hdg⟩ | ⟨h, _⟩ | ⟨h, _⟩
      · cases h
      · cases h
      · cases h
      · have hu2 : upp (t.map (lowF 4 b)) = t := (low_upp b t).trans hu
        have hrn := run_behind hb
        have hro := run_app (low_run b ha) hrn
        have hca : callsL rest = true := by
          unfold Behind at hb
          rw [if_pos rfl] at hb
          cases rest with
          | nil => cases hb
          | cons c r => cases hb; rfl
        rw [hs, hr]
        have ha2 := low_run b ha
        have hp2 := low_plain b hpl
        have hd2 := low_head b hdg
        have hn2 : t.map (lowF 4 b) ≠ [] := fun e => hne (by simpa using e)
        generalize t.map (lowF 4 b) = T at *
        cases hT : T with
        | nil => exact absurd hT hn2
        | cons c r =>
          rw [hT] at ha2 hro hp2 hd2 hu2
          rw [List.all_cons, Bool.and_eq_true] at ha2
          unfold tok
          rw [List.cons_append] at hro ⊢
          simp only
          rw [if_pos ha2.1, hro, ← List.cons_append, List.drop_left, hca]
          unfold runTok
          have := hd2 c rfl
          simp only [List.head?_cons, Option.map_some, Option.getD_some, this]
          unfold namTok
          rw [if_neg (by decide), if_neg (by simp), if_pos (by simp [hp2]), hu2]
      · cases h
      · omega
    · have hr : (rdW b ⟨5, t, a⟩).text = t := rfl
      rcases hg with ⟨h, _⟩ | h | ⟨h, _⟩ | ⟨h, _⟩ | ⟨_, ht⟩ | ⟨h, _⟩
      · cases h
      · cases h
      · cases h
      · cases h
      · have ha : t.all isRun = true := by rcases ht with rfl | rfl <;> decide
        have hrn := run_behind hb
        have hro := run_app (low_run b ha) hrn
        have hca : callsL rest = false := by
          unfold Behind at hb
          rw [if_neg (by decide)] at hb
          exact calls_of hb
        rw [hs, hr]
        have key : ∀ T : List UInt8, T ≠ [] → T.all isRun = true → runOf (T ++ rest) = T → tok R (T ++ rest) = runTok R T false := fun T hn ha hro => by
          cases hT : T with
          | nil => exact absurd hT hn
          | cons c r =>
            rw [hT] at ha hro
            rw [List.all_cons, Bool.and_eq_true] at ha
            unfold tok
            rw [List.cons_append] at hro ⊢
            simp only
            rw [if_pos ha.1, hro, ← List.cons_append, List.drop_left, hca]
        rw [key _ (by rcases ht with rfl | rfl <;> simp [truL, falL]) (low_run b ha) hro]
        cases b <;> rcases ht with rfl | rfl <;> rfl
      · omega
  · have hr : rdW b ⟨k, t, a⟩ = ⟨k, t, a⟩ := by unfold rdW; rw [if_neg (by show ¬ k = 3; omega)]
    have hs : spS b ⟨k, t, a⟩ = spl ⟨k, t, a⟩ := by
      unfold spS spl
      rw [show (⟨k, t, a⟩ : Wd).text.map (lowF (⟨k, t, a⟩ : Wd).kind b) = t from lowF_same hk t]
    rw [hr, hs]
    exact tok_good hR (x := ⟨k, t, a⟩) hg hb
end Go.Proofs.YtdlomdbmmhjppaaGreatDoor
namespace Go.Proofs.YtdlomdbmmhjppaaGreatDoor
open Go.RowKit
set_option linter.unusedVariables false

/-- What stands ahead of a word. -/
def gapS (z : Bool) (p : Nat) : List UInt8 := if p = 4 then [] else if z then [32, 10, 9] else [32]
/-- What is written: the words from the one at i on, p the kind of the one ahead (4 at the front). -/
def bldS (z sm : Nat → Bool) : Nat → Nat → List Wd → List UInt8
  | p, i, [] => []
  | p, i, x :: l => gapS (z i) p ++ spS (sm i) x ++ bldS z sm x.kind (i + 1) l
/-- The words that are read again, each where it is written. -/
def blsS (z sm : Nat → Bool) : Nat → Nat → Nat → List Wd → List Wd
  | p, i, a, [] => []
  | p, i, a, x :: l => { rdW (sm i) x with at' := a + (gapS (z i) p).length } :: blsS z sm x.kind (i + 1) (a + (gapS (z i) p ++ spS (sm i) x).length) l
theorem spS_head {R : List UInt8 → Bool} (b : Bool) {x : Wd} (h : Good R x.kind x.text) : ∃ c r, spS b x = c :: r ∧ blB c = false := by
  by_cases hk : x.kind = 3 ∨ x.kind = 4 ∨ x.kind = 5
  · have ha : x.text ≠ [] ∧ x.text.all isRun = true := by
      rcases h with ⟨h, _⟩ | h | ⟨_, hne, _, ha, _⟩ | ⟨_, hne, _, _, ha, _⟩ | ⟨_, ht⟩ | ⟨h, _⟩
      · omega
      · omega
      · exact ⟨hne, ha⟩
      · exact ⟨hne, ha⟩
      · rcases ht with e | e <;> rw [e] <;> exact ⟨by decide, by decide⟩
      · omega
    have hs : spS b x = x.text.map (lowF 4 b) := by
      unfold spS
      rw [if_neg (by omega)]
      exact low_eq hk b _
    have hr := low_run b ha.2
    rw [hs]
    cases ht : x.text.map (lowF 4 b) with
    | nil => exact absurd (by simpa using ht) ha.1
    | cons c r =>
      rw [ht, List.all_cons, Bool.and_eq_true] at hr
      exact ⟨c, r, rfl, run_blB hr.1⟩
  · have hs : spS b x = spl x := by
      unfold spS spl
      rw [lowF_same hk]
    rw [hs]
    exact spl_head h
theorem blS_app {R : List UInt8 → Bool} (b : Bool) {x : Wd} (h : Good R x.kind x.text) {rest : List UInt8} : bl (spS b x ++ rest) = 0 := by
  obtain ⟨c, r, e, hc⟩ := spS_head b h
  rw [e, List.cons_append]; exact bl_first hc
theorem gap_bl (z : Bool) {p : Nat} (h : p ≠ 4) (rest : List UInt8) : 0 < bl (gapS z p ++ rest) := by
  unfold gapS
  rw [if_neg h]
  cases z <;> simp [bl]
theorem gap_cut (R : List UInt8 → Bool) (z : Bool) (p : Nat) (rest : List UInt8) (i : Nat) (acc : List Wd) : cutA R (gapS z p ++ rest) i acc = cutA R rest (i + (gapS z p).length) acc := by
  unfold gapS
  by_cases h : p = 4
  · rw [if_pos h]; rfl
  · rw [if_neg h]
    cases z
    · exact blk_cut R (b := [32]) (by decide) i acc
    · exact (blk_cut R (b := [32]) (rest := 10 :: 9 :: rest) (by decide) i acc).trans ((blk_cut R (b := [10]) (rest := 9 :: rest) (by decide) (i + 1) acc).trans (blk_cut R (b := [9]) (rest := rest) (by decide) (i + 1 + 1) acc))
theorem bldS_cut {R : List UInt8 → Bool} (hR : ∀ t, R t = true → upp t ≠ truL ∧ upp t ≠ falL) (hL : ∀ t, R t = true → R (t.map (lowF 4 true)) = true) (z sm : Nat → Bool) : ∀ (l : List Wd) (p i a : Nat) (acc : List Wd), Goods R l → cutA R (bldS z sm p i l) a acc = .ok (acc ++ blsS z sm p i a l)
  | [], p, i, a, acc, h => by simp [bldS, blsS, cut_end]
  | x :: l, p, i, a, acc, h => by
    obtain ⟨h1, h2, h3⟩ := h
    have hb : Behind x.kind (bldS z sm x.kind (i + 1) l) := by
      unfold Behind
      split
      · next h4 =>
        obtain ⟨y, m, rfl, h5, h6⟩ := h2 h4
        rw [h4, bldS]
        unfold gapS spS
        rw [if_pos rfl, h5, if_neg (by decide), h6, lowF_same (by decide)]; rfl
      · next h4 =>
        cases l with
        | nil => exact .inl rfl
        | cons y m => rw [bldS, List.append_assoc]; exact .inr (gap_bl _ h4 _)
    have ht := tok_low hR hL (sm i) h1 hb
    rw [bldS, blsS, List.append_assoc, gap_cut, cut_word R (blS_app (sm i) h1) ht, List.drop_left, bldS_cut hR hL z sm l _ _ _ _ h3, List.length_append, Nat.add_assoc]
    rw [List.append_assoc, List.singleton_append, ← rdW_kind (sm i) x]
theorem blsS_len (z sm : Nat → Bool) : ∀ (l : List Wd) (p i a : Nat), (blsS z sm p i a l).length = l.length
  | [], p, i, a => rfl
  | x :: l, p, i, a => by rw [blsS, List.length_cons, List.length_cons, blsS_len z sm l]
end Go.Proofs.YtdlomdbmmhjppaaGreatDoor
namespace Go.Proofs.YtdlomdbmmhjppaaGreatDoor
open Go.RowKit
set_option linter.unusedVariables false

theorem lowc_all : ∀ n : Fin 256, isL (lowF 4 true (UInt8.ofNat n.val)) = isL (UInt8.ofNat n.val) ∧ dig (lowF 4 true (UInt8.ofNat n.val)) = dig (UInt8.ofNat n.val) ∧ (lowF 4 true (UInt8.ofNat n.val) == 36) = (UInt8.ofNat n.val == 36) ∧ (lowF 4 true (UInt8.ofNat n.val) == 48) = (UInt8.ofNat n.val == 48) ∧ ((!(isL (UInt8.ofNat n.val))) || (ltr (lowF 4 true (UInt8.ofNat n.val)) == ltr (UInt8.ofNat n.val))) = true ∧ ((!(dig (UInt8.ofNat n.val))) || (lowF 4 true (UInt8.ofNat n.val) == UInt8.ofNat n.val)) = true := by
  decide +kernel
abbrev lw : UInt8 → UInt8 := lowF 4 true
theorem lowc (c : UInt8) : isL (lw c) = isL c ∧ dig (lw c) = dig c ∧ (lw c == 36) = (c == 36) ∧ (lw c == 48) = (c == 48) ∧ (isL c = true → ltr (lw c) = ltr c) ∧ (dig c = true → lw c = c) := by
  obtain ⟨h1, h2, h3, h4, h5, h6⟩ := lowc_all ⟨c.toNat, c.toNat_lt⟩
  simp only [UInt8.ofNat_toNat] at h1 h2 h3 h4 h5 h6
  refine ⟨h1, h2, h3, h4, fun h => ?_, fun h => ?_⟩
  · rw [h] at h5; simpa using h5
  · rw [h] at h6; simpa using h6
theorem tw_map (p : UInt8 → Bool) (hp : ∀ c, p (lw c) = p c) : ∀ l : List UInt8, (l.map lw).takeWhile p = (l.takeWhile p).map lw
  | [] => rfl
  | c :: r => by
    rw [List.map_cons, List.takeWhile_cons, List.takeWhile_cons, hp c]
    by_cases h : p c = true
    · rw [if_pos h, if_pos h, List.map_cons, tw_map p hp r]
    · rw [if_neg h, if_neg h]; rfl
theorem runE_low (p : UInt8 → Bool) (hp : ∀ c, p (lw c) = p c) (t : List UInt8) (i : Nat) : runE p (ba (t.map lw)) i = runE p (ba t) i := by
  unfold runE
  rw [ba_list, ba_list, ← List.map_drop, tw_map p hp, List.length_map]
theorem pinE_low (t : List UInt8) (i : Nat) : pinE (ba (t.map lw)) i = pinE (ba t) i := by
  unfold pinE
  rw [ba_list, ba_list, ← List.map_drop]
  cases t.drop i with
  | nil => rfl
  | cons c r =>
    simp only [List.map_cons, List.take_succ_cons, List.take_zero, List.countP_cons, List.countP_nil]
    rw [(lowc c).2.2.1]
theorem cuts_low (t : List UInt8) : cA (ba (t.map lw)) = cA (ba t) ∧ cB (ba (t.map lw)) = cB (ba t) ∧ cC (ba (t.map lw)) = cC (ba t) ∧ cD (ba (t.map lw)) = cD (ba t) := by
  have a : cA (ba (t.map lw)) = cA (ba t) := pinE_low t 0
  have b : cB (ba (t.map lw)) = cB (ba t) := by unfold cB; rw [a]; exact runE_low isL (fun c => (lowc c).1) t _
  have c : cC (ba (t.map lw)) = cC (ba t) := by unfold cC; rw [b]; exact pinE_low t _
  exact ⟨a, b, c, by unfold cD; rw [c]; exact runE_low dig (fun c => (lowc c).2.1) t _⟩
theorem lead_low : ∀ l : List UInt8, lead0 (l.map lw) = lead0 l
  | [] => rfl
  | c :: r => (lowc c).2.2.2.1
theorem syn_low (t : List UInt8) : synS (ba (t.map lw)) = synS (ba t) := by
  obtain ⟨a, b, c, d⟩ := cuts_low t
  unfold synS
  rw [a, b, c, d, ba_list, ba_list, ← List.map_drop, lead_low]
theorem ext_list (L : List UInt8) (a b : Nat) : ((ba L).extract a b).data.toList = (L.drop a).take (b - a) := by
  simp
theorem tk_run (p : UInt8 → Bool) (t : List UInt8) (a : Nat) : (t.drop a).take (runE p (ba t) a - a) = (t.drop a).takeWhile p := by
  unfold runE
  rw [ba_list, Nat.add_sub_cancel_left]
  exact (List.prefix_iff_eq_take.1 (List.takeWhile_prefix p)).symm
theorem col_low : ∀ (l : List UInt8) (a : Nat), l.all isL = true → (l.map lw).foldl (fun a c => a * 26 + ltr c) a = l.foldl (fun a c => a * 26 + ltr c) a
  | [], a, _ => rfl
  | c :: r, a, h => by
    rw [List.all_cons, Bool.and_eq_true] at h
    rw [List.map_cons, List.foldl_cons, List.foldl_cons, (lowc c).2.2.2.2.1 h.1, col_low r _ h.2]
theorem dig_low : ∀ l : List UInt8, l.all dig = true → l.map lw = l
  | [], _ => rfl
  | c :: r, h => by
    rw [List.all_cons, Bool.and_eq_true] at h
    rw [List.map_cons, (lowc c).2.2.2.2.2 h.1, dig_low r h.2]
theorem all_tw (p : UInt8 → Bool) : ∀ l : List UInt8, (l.takeWhile p).all p = true
  | [] => rfl
  | c :: r => by
    rw [List.takeWhile_cons]
    by_cases h : p c = true
    · rw [if_pos h, List.all_cons, h, all_tw p r]; rfl
    · rw [if_neg h]; rfl
theorem colS_low (t : List UInt8) : colS (ba (t.map lw)) = colS (ba t) := by
  obtain ⟨a, b, c, d⟩ := cuts_low t
  unfold colS
  rw [a, b, ext_list, ext_list]
  have e : (t.drop (cA (ba t))).take (cB (ba t) - cA (ba t)) = (t.drop (cA (ba t))).takeWhile isL := tk_run isL t _
  rw [← List.map_drop, ← List.map_take, e]
  exact col_low _ 0 (all_tw isL _)
theorem rowS_low (t : List UInt8) : rowS (ba (t.map lw)) = rowS (ba t) := by
  obtain ⟨a, b, c, d⟩ := cuts_low t
  unfold rowS
  rw [c, d, ext_list, ext_list]
  have e : (t.drop (cC (ba t))).take (cD (ba t) - cC (ba t)) = (t.drop (cC (ba t))).takeWhile dig := tk_run dig t _
  rw [← List.map_drop, ← List.map_take, e, dig_low _ (all_tw dig _)]
theorem off_low (t : List UInt8) : offS (ba (t.map lw)) = offS (ba t) := by unfold offS; rw [colS_low, rowS_low]
/-- All that is read. -/
theorem ref_low (t : List UInt8) : rE (ba (t.map lw)) = rE (ba t) ∧ rN (ba (t.map lw)) = rN (ba t) ∧ rR (ba (t.map lw)) = rR (ba t) ∧ rC (ba (t.map lw)) = rC (ba t) ∧ rP (ba (t.map lw)) = rP (ba t) ∧ rQ (ba (t.map lw)) = rQ (ba t) := by
  obtain ⟨a, b, c, d⟩ := cuts_low t
  unfold rE rN rR rC rP rQ
  rw [syn_low, off_low, colS_low, rowS_low, a, b, c, d]
  exact ⟨rfl, rfl, rfl, rfl, rfl, rfl⟩
theorem refL_low (t : List UInt8) : refL (t.map lw) = refL t := by
  unfold refL
  rw [(ref_low t).2.1, ba_size, ba_size, List.length_map]
/-- A formula's words written with blanks and small letters. -/
theorem low_same {s : ByteArray} {ws : List Wd} (h : cutR s = .ok ws) (z sm : Nat → Bool) (hz : (bldS z sm 4 0 ws).length ≤ 65535) : cutR (ba (bldS z sm 4 0 ws)) = .ok (blsS z sm 4 0 0 ws) := by
  unfold cutR
  rw [if_neg (by rw [ba_size]; omega), ba_list, bldS_cut (fun t => refL_no) (fun t ht => (refL_low t).trans ht) z sm ws 4 0 0 [] (cutR_goods h), List.nil_append]
end Go.Proofs.YtdlomdbmmhjppaaGreatDoor
namespace Go.Proofs.YtdlomdbmmhjppaaGreatDoor
open Go.RowKit
set_option linter.unusedVariables false

/-- The kind of the last word. -/
def lastK : Nat → List Wd → Nat
  | p, [] => p
  | p, y :: m => lastK y.kind m
theorem lastK_snoc : ∀ (l : List Wd) (p : Nat) (x : Wd), lastK p (l ++ [x]) = x.kind
  | [], p, x => rfl
  | y :: m, p, x => lastK_snoc m y.kind x
theorem bldS_snoc (z sm : Nat → Bool) : ∀ (l : List Wd) (p i : Nat) (x : Wd), bldS z sm p i (l ++ [x]) = bldS z sm p i l ++ gapS (z (i + l.length)) (lastK p l) ++ spS (sm (i + l.length)) x
  | [], p, i, x => by
    show gapS (z i) p ++ spS (sm i) x ++ [] = [] ++ gapS (z (i + 0)) p ++ spS (sm (i + 0)) x
    rw [List.append_nil, Nat.add_zero, List.nil_append]
  | y :: m, p, i, x => by
    rw [List.cons_append, bldS, bldS, bldS_snoc z sm m, List.length_cons, lastK, show i + 1 + m.length = i + (m.length + 1) by omega]
    simp only [List.append_assoc]
theorem blsS_snoc (z sm : Nat → Bool) : ∀ (l : List Wd) (p i a : Nat) (x : Wd), blsS z sm p i a (l ++ [x]) = blsS z sm p i a l ++ [{ rdW (sm (i + l.length)) x with at' := a + (bldS z sm p i l ++ gapS (z (i + l.length)) (lastK p l)).length }]
  | [], p, i, a, x => rfl
  | y :: m, p, i, a, x => by
    rw [List.cons_append, blsS, blsS, blsS_snoc z sm m, List.cons_append, List.length_cons, lastK, bldS, show i + 1 + m.length = i + (m.length + 1) by omega]
    simp only [List.append_assoc, List.length_append, Nat.add_assoc]
/-- Where each word is written. -/
def atsS (z sm : Nat → Bool) (l : List Wd) : List Nat := (blsS z sm 4 0 0 l).map fun x => x.at' + 1
theorem atsS_snoc (z sm : Nat → Bool) (l : List Wd) (x : Wd) : atsS z sm (l ++ [x]) = atsS z sm l ++ [(61 :: bldS z sm 4 0 l ++ gapS (z l.length) (lastK 4 l)).length] := by
  unfold atsS
  rw [blsS_snoc, List.map_append, Nat.zero_add, Nat.zero_add]
  rfl
/-- The row as far as it goes is a front of the whole. -/
theorem bldS_take (z sm : Nat → Bool) (l : List Wd) (k : Nat) (hk : k < l.length) : bldS z sm 4 0 (l.take (k + 1)) = bldS z sm 4 0 (l.take k) ++ gapS (z k) (lastK 4 (l.take k)) ++ spS (sm k) l[k] := by
  rw [List.take_succ_eq_append_getElem hk, bldS_snoc, List.length_take, Nat.min_eq_left (Nat.le_of_lt hk), Nat.zero_add]
theorem lastK_take (l : List Wd) (k : Nat) (hk : k + 1 ≤ l.length) : lastK 4 (l.take (k + 1)) = (l[k]'(by omega)).kind := by
  rw [List.take_succ_eq_append_getElem (by omega), lastK_snoc]
end Go.Proofs.YtdlomdbmmhjppaaGreatDoor
namespace Go.Proofs.YtdlomdbmmhjppaaGreatDoor
open Go.RowKit
set_option linter.unusedVariables false

theorem spn_at {R : List UInt8 → Bool} {L : List UInt8} : ∀ (l : List Wd) (p : Nat), Spn R L p l → ∀ i (hi : i < l.length), p ≤ l[i].at' ∧ l[i].at' < L.length ∧ ∀ j (hj : j < i), (l[j]'(by omega)).at' < l[i].at'
  | [], p, h, i, hi => absurd hi (Nat.not_lt_zero i)
  | x :: l, p, h, i, hi => by
    obtain ⟨n, h1, h2, h3, h4, h5, _⟩ := spn_word h
    cases i with
    | zero => exact ⟨h1, by show x.at' < L.length; omega, fun j hj => absurd hj (Nat.not_lt_zero j)⟩
    | succ i =>
      have hi2 : i < l.length := by simpa using hi
      obtain ⟨q1, q2, q3⟩ := spn_at l _ h5 i hi2
      refine ⟨by show p ≤ l[i].at'; omega, q2, fun j hj => ?_⟩
      cases j with
      | zero => show x.at' < l[i].at'; omega
      | succ j => exact q3 j (by omega)
theorem cutR_spn {s : ByteArray} {ws : List Wd} (h : cutR s = .ok ws) : Spn refL s.data.toList 0 ws := by
  unfold cutR at h
  split at h
  · cases h
  · obtain ⟨l, e, hs⟩ := cut_spn refL s.data.toList _ 0 [] ws (Nat.le_refl _) (Nat.zero_le _) h
    rw [List.nil_append] at e
    rw [e]; exact hs
/-- A text's words: each within it, each behind the ones ahead. -/
theorem cut_at {r : List UInt8} {ws : List Wd} (h : cutR (ba r) = .ok ws) (i : Nat) (hi : i < ws.length) : ws[i].at' < r.length ∧ ∀ j (hj : j < i), (ws[j]'(by omega)).at' < ws[i].at' := by
  obtain ⟨_, q2, q3⟩ := spn_at ws 0 (cutR_spn h) i hi
  rw [ba_list] at q2
  exact ⟨q2, q3⟩
end Go.Proofs.YtdlomdbmmhjppaaGreatDoor
