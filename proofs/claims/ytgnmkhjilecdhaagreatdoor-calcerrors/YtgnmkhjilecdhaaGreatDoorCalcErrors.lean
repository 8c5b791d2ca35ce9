/- CalcErrors: of class scalar the first argument that is an error is the value, wherever it stands; what a function gives may be and is no blank; of class asking it is a truth; who may not be called is refused. Proved of the Go text. -/
import Derived.Test.YtgnmkhjilecdhaaGreatDoorCeJ
import Derived.Test.YtgnmkhjilecdhaaGreatDoorRwJ
import Derived.Test.YtgnmkhjilecdhaaGreatDoorOpens14
namespace Go.Proofs.YtgnmkhjilecdhaaGreatDoor
open Go.RowKit Go.Sort
set_option linter.unusedVariables false

theorem first_bad (P : Va → Prop) : ∀ xs : List Va, (∀ x ∈ xs, P x) ∨ ∃ (n : Nat) (x : Va), n < xs.length ∧ xs[n]? = some x ∧ ¬ P x ∧ ∀ (j : Nat) (y : Va), j < n → xs[j]? = some y → P y
  | [] => .inl fun x hx => by cases hx
  | x :: r => by
    by_cases h : P x
    · rcases first_bad P r with h1 | ⟨n, y, h0, h1, h2, h3⟩
      · exact .inl (memC h h1)
      · refine .inr ⟨n + 1, y, by simpa using h0, by simpa using h1, h2, fun j z hj hz => ?_⟩
        cases j with
        | zero => obtain rfl : x = z := by simpa using hz
                  exact h
        | succ j => exact h3 j z (by omega) (by simpa using hz)
    · exact .inr ⟨0, x, by simp, rfl, h, fun j z hj => by omega⟩
theorem fe_set : ∀ (xs : List Va) (K : Nat) (e : Va), fe xs = none → K < xs.length → e.k = 4 → fe (xs.set K e) = some e
  | [], K, e, h, hK, he => by simp at hK
  | x :: r, 0, e, h, hK, he => by simp [fe, he]
  | x :: r, K + 1, e, h, hK, he => by
    rw [fe] at h
    split at h
    · cases h
    · rename_i hx
      rw [List.set_cons_succ, fe, if_neg hx]
      exact fe_set r K e h (by simpa using hK) he
theorem set_all {P : Va → Prop} {xs : List Va} (h : ∀ x ∈ xs, P x) (K : Nat) {e : Va} (he : P e) : ∀ x ∈ xs.set K e, P x := fun x hx => by
  rcases List.mem_or_eq_of_mem_set hx with h1 | rfl
  · exact h x h1
  · exact he
theorem dec_no {a b : Int} (h : ¬ a < b) : decide (a < b) = false := by simp; omega
theorem rem_at (u : Int) (n : Nat) (hn : 0 < n) : ∃ K : Nat, K < n ∧ (u.tmod (n : Int) = (K : Int) ∨ (u.tmod (n : Int) = -(K : Int) ∧ 0 < K)) := by
  have h1 : (u.tmod (n : Int)).natAbs < n := by
    rw [Int.natAbs_tmod]
    exact Nat.mod_lt _ (by simpa using hn)
  refine ⟨(u.tmod (n : Int)).natAbs, h1, ?_⟩
  omega
theorem calcErrors_walk (f : Int) (f0 : -9223372036854775808 ≤ f) (f1 : f ≤ 9223372036854775807) (a : Option Addr) (len cap : Nat) (u : Int) (u0 : -9223372036854775808 ≤ u) (u1 : u ≤ 9223372036854775807) (e0 : Int) (e00 : -9223372036854775808 ≤ e0) (e01 : e0 ≤ 9223372036854775807) (w : World) (ht : Tb w) (hv : len ≤ cap ∧ ∃ xs : List Va, xs.length = len ∧ (∀ x ∈ xs, -9223372036854775808 ≤ x.i ∧ x.i ≤ 9223372036854775807) ∧ ValsAt w a xs) :
    Calls Tryz.prog 3 #[.int .i64 f, .slice a len cap, .int .i64 u, .int .i64 e0] w fun e w' => e = .returned (.bool true) ∧ Below w.heap.size w w' := by
  obtain ⟨hcap, ys, hly, hbd, hvy⟩ := hv
  have m10 : 10 ≤ maxLen := by unfold maxLen; decide
  by_cases hS : len ≤ 10
  · subst hly
    have hl : ys.length ≤ maxLen := by omega
    by_cases hf : 1 ≤ f ∧ f ≤ 76
    · obtain ⟨n, rfl⟩ : ∃ n : Nat, f = (n : Int) + 1 := ⟨(f - 1).toNat, by omega⟩
      have hn : n < 76 := by omega
      by_cases hc : n < 41
      · obtain ⟨nm, mn, mx, htab, h0, h4, hrow⟩ := some_row n hc
        have hI := info_at n nm _ mn mx htab rfl
        have hcl : T9.clsOf ((n : Int) + 1) = 1 ∨ T9.clsOf ((n : Int) + 1) = 2 := by
          unfold T9.clsOf
          by_cases h : (n : Int) + 1 ≤ 35
          · left; rw [if_pos h]
          · right; rw [if_neg h, if_pos (by omega)]
        by_cases hmn : (ys.length : Int) < mn
        · exact ce_fewS _ ys a cap u e0 w ht hS hvy nm _ mn mx 0 rfl hcl (by simp; exact hmn) hI (hide fun w a cap HT hv => call_few _ ys a cap w HT hv hl nm _ mn mx hI hcl hmn)
        by_cases hmx : mx < (ys.length : Int)
        · exact ce_manyS _ ys a cap u e0 w ht hS hvy nm _ mn mx 0 rfl hcl (dec_no hmn) (by simp; exact hmx) hI (hide fun w a cap HT hv => call_many _ ys a cap w HT hv hl nm _ mn mx hI hcl hmn hmx)
        rcases first_bad (fun x => Good x.k x.i x.t) ys with hg | ⟨j, x, hj, hx, hb, hall⟩
        · have hw : ∀ x ∈ ys, Wh x := fun x hx => ⟨hg x hx, hbd x hx⟩
          have HM : ∀ (j : Nat) (x : Va), ys[j]? = some x → CallIs 7 #[x.v] (.bool true) := fun j x hx => vmay_yes (hg x (List.mem_of_getElem? hx))
          obtain ⟨out, hF, ho, hk0, hsc, hask⟩ := hrow ys hw (by omega) (by omega)
          obtain ⟨k, i, t⟩ := out
          have hk0' : (k == 0) = false := by simpa using hk0
          by_cases h35 : n < 35
          · have hc1 : T9.clsOf ((n : Int) + 1) = 1 := by unfold T9.clsOf; rw [if_pos (by omega)]
            rw [hc1] at hI
            cases hfe : fe ys with
            | some e =>
              obtain rfl := hsc h35 e hfe
              obtain ⟨q, hq, hfi, hxq⟩ := fiV_yes hfe
              exact ce_first _ ys a cap u e0 w ht hS hvy nm 1 mn mx rfl k i t (vmay_yes ho.1) hk0' q hq hfi hxq hI (dec_no hmn) (dec_no hmx) HM (hide hF)
            | none =>
              have hfi := fiV_no hfe
              by_cases hend : ys.length = 0 ∨ e0 < 1 ∨ 6 < e0
              · exact ce_end _ ys a cap u e0 w ht hS hvy nm 1 mn mx rfl k i t (vmay_yes ho.1) hk0' hfi hend hI (dec_no hmn) (dec_no hmx) HM (hide hF)
              · obtain ⟨K, hK, hr⟩ := rem_at u ys.length (by omega)
                have he : Wh (⟨4, e0, no⟩ : Va) := wh_err (by omega)
                obtain ⟨out2, hF2, _, _, hsc2, _⟩ := hrow (ys.set K ⟨4, e0, no⟩) (set_all hw K he) (by rw [List.length_set]; omega) (by rw [List.length_set]; omega)
                obtain rfl := hsc2 h35 _ (fe_set ys K ⟨4, e0, no⟩ hfe hK rfl)
                unfold FunIs at hF2
                rw [List.length_set] at hF2
                exact ce_last _ ys a cap u e0 w ht hS hvy nm 1 mn mx rfl k i t (vmay_yes ho.1) hk0' hfi (by omega) (by omega) (by omega) K hK hr (hide hF2) hI (dec_no hmn) (dec_no hmx) HM (hide hF)
          · have hc2 : T9.clsOf ((n : Int) + 1) = 2 := by unfold T9.clsOf; rw [if_neg (by omega), if_pos (by omega)]
            rw [hc2] at hI
            have hk2 : k = 2 := hask (by omega)
            exact ce_ask _ ys a cap u e0 w ht hS hvy nm 2 mn mx rfl k i t (vmay_yes ho.1) hk0' (by simp [hk2]) hI (dec_no hmn) (dec_no hmx) HM (hide hF)
        · have HM : ∀ (q : Nat) (y : Va), q < j → ys[q]? = some y → CallIs 7 #[y.v] (.bool true) := fun q y hq hy => vmay_yes (hall q y hq hy)
          exact ce_value _ ys a cap u e0 w ht hS hvy nm _ mn mx hcl j hj x hx (vmay_no hb) hI (dec_no hmn) (dec_no hmx) HM (hide fun w a cap HT hv => call_value _ ys a cap w HT hv hl nm _ mn mx hI hcl hmn hmx j hj HM x hx (vmay_no hb))
      · have hI := info_is n hn
        have hcl : ¬ (T9.clsOf ((n : Int) + 1) = 1 ∨ T9.clsOf ((n : Int) + 1) = 2) := by
          unfold T9.clsOf
          rw [if_neg (by omega), if_neg (by omega)]
          repeat' split
          all_goals decide
        exact ce_classS _ ys a cap u e0 w ht hS hvy _ _ _ _ 0 rfl (by simp; exact fun h => hcl (.inl h)) (by simp; exact fun h => hcl (.inr h)) hI (hide fun w a cap HT hv => call_class _ ys a cap w HT hv hl _ _ _ _ hI hcl)
    · have hI := info_bad f hf
      exact ce_noneS f ys a cap u e0 w ht hS hvy no 0 0 0 1 rfl hI (hide fun w a cap HT hv => call_none f ys a cap w HT hv hl hI)
  · obtain ⟨b, o, rfl, _⟩ := at_of hvy (j := 0) (by omega)
    have hvx := hvy.takeV 10
    have hx10 : (ys.take 10).length = 10 := by rw [List.length_take]; omega
    have hl : (ys.take 10).length ≤ maxLen := by omega
    by_cases hf : 1 ≤ f ∧ f ≤ 76
    · obtain ⟨n, rfl⟩ : ∃ n : Nat, f = (n : Int) + 1 := ⟨(f - 1).toNat, by omega⟩
      have hn : n < 76 := by omega
      by_cases hc : n < 41
      · obtain ⟨nm, mn, mx, htab, h0, h4, hrow⟩ := some_row n hc
        have hI := info_at n nm _ mn mx htab rfl
        have hcl : T9.clsOf ((n : Int) + 1) = 1 ∨ T9.clsOf ((n : Int) + 1) = 2 := by
          unfold T9.clsOf
          by_cases h : (n : Int) + 1 ≤ 35
          · left; rw [if_pos h]
          · right; rw [if_neg h, if_pos (by omega)]
        by_cases hmn : (10 : Int) < mn
        · exact ce_fewG _ (ys.take 10) none cap u e0 w ht len (by omega) hcap hx10 b o hvx nm _ mn mx 0 rfl hcl (by simp; exact hmn) hI (hide fun w a cap HT hv => call_few _ (ys.take 10) a cap w HT hv hl nm _ mn mx hI hcl (by rw [hx10]; exact hmn))
        have hmx : mx < (10 : Int) := by omega
        exact ce_manyG _ (ys.take 10) none cap u e0 w ht len (by omega) hcap hx10 b o hvx nm _ mn mx 0 rfl hcl (dec_no hmn) (by simp; exact hmx) hI (hide fun w a cap HT hv => call_many _ (ys.take 10) a cap w HT hv hl nm _ mn mx hI hcl (by rw [hx10]; exact hmn) (by rw [hx10]; exact hmx))
      · have hI := info_is n hn
        have hcl : ¬ (T9.clsOf ((n : Int) + 1) = 1 ∨ T9.clsOf ((n : Int) + 1) = 2) := by
          unfold T9.clsOf
          rw [if_neg (by omega), if_neg (by omega)]
          repeat' split
          all_goals decide
        exact ce_classG _ (ys.take 10) none cap u e0 w ht len (by omega) hcap hx10 b o hvx _ _ _ _ 0 rfl (by simp; exact fun h => hcl (.inl h)) (by simp; exact fun h => hcl (.inr h)) hI (hide fun w a cap HT hv => call_class _ (ys.take 10) a cap w HT hv hl _ _ _ _ hI hcl)
    · have hI := info_bad f hf
      exact ce_noneG f (ys.take 10) none cap u e0 w ht len (by omega) hcap hx10 b o hvx no 0 0 0 1 rfl hI (hide fun w a cap HT hv => call_none f (ys.take 10) a cap w HT hv hl hI)
end Go.Proofs.YtgnmkhjilecdhaaGreatDoor
