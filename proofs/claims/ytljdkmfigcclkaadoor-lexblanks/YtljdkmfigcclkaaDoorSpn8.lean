/- Where a text's words stand; what a word that begins a text is; a text up to a fault; of no program. -/
import Derived.Test.YtljdkmfigcclkaaDoorMach8
namespace Go.Proofs.YtljdkmfigcclkaaDoor
open Go.RowKit
set_option linter.unusedVariables false

/-- A byte of a blank. -/
def blB (c : UInt8) : Bool := c == 9 || (c == 10 || (c == 13 || (c == 32 || (c == 194 || (c == 160 || (c == 227 || c == 128))))))
theorem bl_bytes (l : List UInt8) : ∀ k, k < bl l → ∃ c, l[k]? = some c ∧ blB c = true := by
  cases l with
  | nil => intro k h; simp [bl] at h
  | cons c r =>
    intro k h
    rw [bl] at h
    split at h
    · next hc =>
      have : k = 0 := by omega
      subst this
      refine ⟨c, rfl, ?_⟩
      rcases hc with rfl | rfl | rfl | rfl <;> rfl
    · split at h
      · next hc =>
        obtain ⟨rfl, h2⟩ := hc
        have hk : k = 0 ∨ k = 1 := by omega
        rcases hk with rfl | rfl
        · exact ⟨194, rfl, rfl⟩
        · cases r with
          | nil => cases h2
          | cons d r => simp at h2; subst h2; exact ⟨160, rfl, rfl⟩
      · split at h
        · next hc =>
          obtain ⟨rfl, h2, h3⟩ := hc
          have hk : k = 0 ∨ k = 1 ∨ k = 2 := by omega
          cases r with
          | nil => cases h2
          | cons d r =>
            cases r with
            | nil => cases h3
            | cons e r =>
              simp at h2 h3
              subst h2; subst h3
              rcases hk with rfl | rfl | rfl
              · exact ⟨227, rfl, rfl⟩
              · exact ⟨128, rfl, rfl⟩
              · exact ⟨128, rfl, rfl⟩
        · omega
/-- Nothing but bytes of blanks from p on up to q. -/
def Gap (L : List UInt8) (p q : Nat) : Prop := ∀ k, p ≤ k → k < q → ∃ c, L[k]? = some c ∧ blB c = true
/-- The words stand in the text from p on, nothing but blanks between. -/
def Spn (R : List UInt8 → Bool) (L : List UInt8) : Nat → List Wd → Prop
  | p, [] => Gap L p L.length
  | p, x :: l => p ≤ x.at' ∧ Gap L p x.at' ∧ ∃ n, tok R (L.drop x.at') = .ok x.kind x.text n ∧ bl (L.drop x.at') = 0 ∧ Spn R L (x.at' + n) l
theorem Gap.cat {L : List UInt8} {p q r : Nat} (h : Gap L p q) (h' : Gap L q r) : Gap L p r := fun k h1 h2 => by
  rcases Nat.lt_or_ge k q with h3 | h3
  · exact h k h1 h3
  · exact h' k h3 h2
theorem Spn.gap {R : List UInt8 → Bool} {L : List UInt8} {p q : Nat} {l : List Wd} (hg : Gap L p q) (hpq : p ≤ q) (h : Spn R L q l) : Spn R L p l := by
  cases l with
  | nil => exact hg.cat h
  | cons x l =>
    obtain ⟨h1, h2, h3⟩ := h
    exact ⟨by omega, hg.cat h2, h3⟩
theorem cut_spn (R : List UInt8 → Bool) (L : List UInt8) : ∀ (f i : Nat) (acc ws : List Wd), L.length - i ≤ f → i ≤ L.length → cutA R (L.drop i) i acc = .ok ws → ∃ l, ws = acc ++ l ∧ Spn R L i l
  | f, i, acc, ws, hf, hi, h => by
    by_cases hl : L.drop i = []
    · rw [hl, cut_end] at h
      cases h
      have : i = L.length := by
        have := congrArg List.length hl
        rw [List.length_drop] at this
        simp at this; omega
      exact ⟨[], by simp, fun k h1 h2 => by omega⟩
    have hlen : 0 < (L.drop i).length := List.length_pos_iff.2 hl
    rw [List.length_drop] at hlen
    cases f with
    | zero => omega
    | succ f =>
      have hbl := bl_len (L.drop i)
      rw [List.length_drop] at hbl
      by_cases hb : 0 < bl (L.drop i)
      · rw [cut_blank R hb, List.drop_drop] at h
        obtain ⟨l, e, hS⟩ := cut_spn R L f _ acc ws (by omega) (by omega) h
        refine ⟨l, e, hS.gap (fun k h1 h2 => ?_) (by omega)⟩
        obtain ⟨c, h3, h4⟩ := bl_bytes (L.drop i) (k - i) (by omega)
        rw [List.getElem?_drop, show i + (k - i) = k by omega] at h3
        exact ⟨c, h3, h4⟩
      · cases ht : tok R (L.drop i) with
        | bad e => rw [cut_bad R hl (by omega) ht] at h; cases h
        | ok k t n =>
          have hn := tok_len ht
          rw [List.length_drop] at hn
          rw [cut_word R (by omega) ht, List.drop_drop] at h
          obtain ⟨l, e, hS⟩ := cut_spn R L f _ _ ws (by omega) (by omega) h
          exact ⟨⟨k, t, i⟩ :: l, by rw [e]; simp, by simp, fun k h1 h2 => absurd h2 (by simp; omega), n, ht, by simp; omega, hS⟩
theorem calls_head {l : List UInt8} (h : callsL l = true) : l[0]? = some 40 := by
  unfold callsL Lib.hasPrefix at h
  cases l with
  | nil => cases h
  | cons d t => simp [List.isPrefixOf] at h; simp [h]
/-- What a word that begins a text is. -/
theorem tok_cases {R : List UInt8 → Bool} {l : List UInt8} {k n : Nat} {t : List UInt8} (h : tok R l = .ok k t n) :
    (k = 1 ∧ t = trim0 (l.take n) ∧ dgs (l.take n) = true ∧ val t ≤ 9223372036854775807 ∧ runOf l = l.take n) ∨
    (k = 2 ∧ l.head? = some 34 ∧ txt l.tail = some (t, n - 1) ∧ 2 ≤ n) ∨
    (k = 3 ∧ t = l.take n ∧ R t = true ∧ runOf l = l.take n ∧ (∀ c, l.head? = some c → isRun c = true ∧ dig c = false)) ∨
    (k = 4 ∧ t = upp (l.take n) ∧ plainN (l.take n) = true ∧ runOf l = l.take n ∧ l[n]? = some 40 ∧ (∀ c, l.head? = some c → isRun c = true ∧ dig c = false)) ∨
    (k = 5 ∧ t = upp (l.take n) ∧ (t = truL ∨ t = falL) ∧ runOf l = l.take n) ∨
    ((k = 6 ∨ k = 7) ∧ k = spKind t ∧ t = l.take n ∧ spFind l = some t ∧ n = t.length) := by
  have hl := tok_len h
  cases l with
  | nil => cases h
  | cons c r =>
    unfold tok at h
    simp only at h
    split at h
    · next hr =>
      have hn := runTok_len h
      have hro : runOf (c :: r) = (c :: r).take n := by rw [hn]; exact List.prefix_iff_eq_take.1 (List.takeWhile_prefix _)
      have hhd : (runOf (c :: r)).head? = some c := by unfold runOf; rw [List.takeWhile_cons, if_pos hr]; rfl
      have hne : runOf (c :: r) ≠ [] := by intro e; rw [e] at hhd; cases hhd
      unfold runTok at h
      rw [hhd] at h
      simp only [Option.map_some, Option.getD_some] at h
      split at h
      · unfold numTok at h
        split at h
        · next hd =>
          split at h
          · next hv => cases h; exact .inl ⟨rfl, by rw [← hro], by rw [← hro]; exact hd, hv, hro⟩
          · cases h
        · cases h
      · next hdg =>
        have hdg' : dig c = false := by simpa using hdg
        unfold namTok at h
        split at h
        · next h5 =>
          cases h
          refine .inr (.inr (.inr (.inr (.inl ⟨rfl, by rw [← hro], ?_, hro⟩))))
          simp only [Bool.and_eq_true, Bool.or_eq_true, beq_iff_eq] at h5
          exact h5.2
        · split at h
          · next h4 =>
            cases h
            simp only [Bool.and_eq_true] at h4
            refine .inr (.inr (.inr (.inl ⟨rfl, by rw [← hro], by rw [← hro]; exact h4.2, hro, ?_, fun x hx => by simp at hx; subst hx; exact ⟨hr, hdg'⟩⟩)))
            have e0 := calls_head h4.1
            rw [List.getElem?_drop] at e0
            simpa using e0
          · split at h
            · next h3 => cases h; exact .inr (.inr (.inl ⟨rfl, hro, h3, hro, fun x hx => by simp at hx; subst hx; exact ⟨hr, hdg'⟩⟩))
            · cases h
    · split at h
      · next hq =>
        unfold txtTok at h
        split at h
        · cases h
        · next b m hm =>
          cases h
          have := txt_len r _ _ hm
          exact .inr (.inl ⟨rfl, by rw [hq]; rfl, by simpa using hm, by omega⟩)
      · unfold spTok at h
        split at h
        · cases h
        · next p hp =>
          cases h
          have hm := sp_mem hp
          refine .inr (.inr (.inr (.inr (.inr ⟨?_, rfl, (pre_take hm.2).symm, hp, rfl⟩))))
          unfold spKind; split <;> simp
end Go.Proofs.YtljdkmfigcclkaaDoor
