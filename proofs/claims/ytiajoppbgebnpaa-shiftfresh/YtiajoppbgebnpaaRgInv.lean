/- A statement whose order is drawn, by what is kept: whatever may come up next keeps it; then it holds at the end, whatever the order was. One goal an operation in place of one an order. No Go in sight. -/
import Derived.StillTail
import Derived.RegionTactic
namespace Go.Proofs.Ytiajoppbgebnpaa
open Go

section
variable {P : Program} {ops : Array Oper} {md : Region.Mode} {Q : Exit → Act → World → Prop}

theorem rg_count {p q : Nat → Bool} : ∀ l : List Nat, (∀ j, q j = true → p j = true) → (∃ i ∈ l, p i = true ∧ q i = false) → l.countP q < l.countP p
  | [], _, h => by obtain ⟨i, hi, _⟩ := h; cases hi
  | x :: l, hqp, h => by
    have mono : l.countP q ≤ l.countP p := List.countP_mono_left fun j _ hj => hqp j hj
    rw [List.countP_cons, List.countP_cons]
    obtain ⟨i, hi, h1, h2⟩ := h
    rcases List.mem_cons.1 hi with rfl | hi
    · rw [h1, h2]; simp; omega
    · have := rg_count l hqp ⟨i, hi, h1, h2⟩
      by_cases hx : q x = true
      · rw [hx, hqp x hx]; simp; omega
      · have hx' : q x = false := by simpa using hx
        rw [hx', if_neg (by simp)]
        by_cases hp : p x = true
        · rw [if_pos hp]; omega
        · rw [if_neg hp]; omega
/-- What each operation waits for stands ahead of it. -/
def aheadB (md : Region.Mode) (ops : Array Oper) : Bool := (List.range ops.size).all fun i => match ops[i]? with
  | some o => o.after.all fun e => !Region.binds md e || decide (e.on < i)
  | none => true
theorem aheadB_spec (h : aheadB md ops = true) {i : Nat} {o : Oper} (ho : ops[i]? = some o) {e : Edge} (he : e ∈ o.after) (hb : Region.binds md e = true) : e.on < i := by
  have hi : i < ops.size := (Array.getElem?_eq_some_iff.1 ho).1
  have h1 := List.all_eq_true.1 h i (List.mem_range.2 hi)
  rw [ho] at h1
  have h2 := (Array.all_eq_true_iff_forall_mem.1 h1) e he
  simpa [hb] using h2
/-- Where something is left, something may come up. -/
theorem rg_left (hA : aheadB md ops = true) (listed : Array Bool) (hs : listed.size = ops.size) : ∀ i, i < ops.size → listed.getD i true = false → Region.ready md ops listed ≠ [] := by
  intro i
  induction i using Nat.strongRecOn with
  | ind i ih =>
    intro hi hl
    by_cases hr : i ∈ Region.ready md ops listed
    · intro e; rw [e] at hr; cases hr
    · have ho : ops[i]? = some ops[i] := Array.getElem?_eq_getElem hi
      have : ∃ e ∈ ops[i].after, Region.binds md e = true ∧ listed.getD e.on false = false := Classical.byContradiction fun hn => hr (mem_ready.2 ⟨hl, _, ho, fun e he hb => by
        cases hg : listed.getD e.on false with
        | true => rfl
        | false => exact absurd ⟨e, he, hb, hg⟩ hn⟩)
      obtain ⟨e, he, hbn, hg⟩ := this
      have hlt := aheadB_spec hA ho he hbn
      refine ih e.on hlt (by omega) ?_
      have hb : e.on < listed.size := by omega
      simp only [Array.getD_eq_getD_getElem?, Array.getElem?_eq_getElem hb, Option.getD_some] at hg ⊢
      exact hg
theorem wpAny_inv (I : (Nat → Bool) → Act → World → Prop) (hA : aheadB md ops = true)
    (hstep : ∀ i, i < ops.size → ∀ (L : Nat → Bool) a w, I L a w → L i = false → (∀ o, ops[i]? = some o → ∀ e ∈ o.after, Region.binds md e = true → L e.on = true) → wpOp P ops Q i (fun a' w' => I (fun j => if j = i then true else L j) a' w') a w)
    (hdone : ∀ (L : Nat → Bool) a w, (∀ i, i < ops.size → L i = true) → I L a w → Q .normal a w) :
    ∀ (fuel : Nat) (listed : Array Bool) (a : Act) (w : World), listed.size = ops.size → I (fun j => listed.getD j true) a w → (List.range ops.size).countP (fun j => !listed.getD j true) ≤ fuel → wpAny P md ops Q fuel listed a w
  | 0, listed, a, w, hs, hI, hf => by
    have hall : ∀ i, i < ops.size → listed.getD i true = true := fun i hi => by
      have h0 : (List.range ops.size).countP (fun j => !listed.getD j true) = 0 := by omega
      have := List.countP_eq_zero.1 h0 i (List.mem_range.2 hi)
      simpa using this
    refine ⟨?_, hdone _ a w hall hI⟩
    cases hr : Region.ready md ops listed with
    | nil => rfl
    | cons j l =>
      have hj : j ∈ Region.ready md ops listed := by rw [hr]; exact List.mem_cons_self ..
      obtain ⟨h1, o, ho, _⟩ := mem_ready.1 hj
      have := hall j (Array.getElem?_eq_some_iff.1 ho).1
      rw [h1] at this; cases this
  | fuel + 1, listed, a, w, hs, hI, hf => by
    refine ⟨fun hr => hdone _ a w (fun i hi => ?_) hI, fun i hi => ?_⟩
    · cases hg : listed.getD i true with
      | true => rfl
      | false => exact absurd hr (rg_left hA listed hs i hi hg)
    · obtain ⟨h1, o, ho, hall⟩ := mem_ready.1 hi
      have hlt := (Array.getElem?_eq_some_iff.1 ho).1
      have := hstep i hlt _ a w hI h1 (fun o' ho' e he hb => by
        rw [ho] at ho'; cases ho'
        have hg := hall e he hb
        have hb' : e.on < listed.size := by have := aheadB_spec hA ho he hb; omega
        simp only [Array.getD_eq_getD_getElem?, Array.getElem?_eq_getElem hb', Option.getD_some] at hg ⊢
        exact hg)
      refine wpOp_mono (fun a' w' h' => ?_) this
      have e1 : ∀ j, (listed.setIfInBounds i true).getD j true = if j = i then true else listed.getD j true := fun j => by
        simp only [Array.getD_eq_getD_getElem?, Array.getElem?_setIfInBounds]
        by_cases hji : i = j
        · subst hji; simp; split <;> simp
        · rw [if_neg hji, if_neg (fun e => hji e.symm)]
      refine wpAny_inv I hA hstep hdone fuel _ a' w' (by rw [Array.size_setIfInBounds]; exact hs) ?_ ?_
      · have : (fun j => (listed.setIfInBounds i true).getD j true) = (fun j => if j = i then true else listed.getD j true) := funext e1
        rw [this]; exact h'
      · have := rg_count (p := fun j => !listed.getD j true) (q := fun j => !(listed.setIfInBounds i true).getD j true) (List.range ops.size) (fun j hj => by
          simp only [e1] at hj
          by_cases hji : j = i
          · rw [if_pos hji] at hj; cases hj
          · rw [if_neg hji] at hj; exact hj) ⟨i, List.mem_range.2 hlt, by simp only [h1]; rfl, by simp only [e1, if_true]; rfl⟩
        omega
/-- A statement whose order is drawn. -/
theorem region_inv {id : Nat} {a : Act} {w : World} (I : (Nat → Bool) → Act → World → Prop) (hm : P.follows .mixedOrders = true) (hA : aheadB .any ops = true) (h0 : I (fun j => decide (ops.size ≤ j)) a { w with drawn := w.drawn + 1 })
    (hstep : ∀ i, i < ops.size → ∀ (L : Nat → Bool) a w, I L a w → L i = false → (∀ o, ops[i]? = some o → ∀ e ∈ o.after, Region.binds .any e = true → L e.on = true) → wpOp P ops Q i (fun a' w' => I (fun j => if j = i then true else L j) a' w') a w)
    (hdone : ∀ (L : Nat → Bool) a w, (∀ i, i < ops.size → L i = true) → I L a w → Q .normal a w) : (Code.region id ops true).wp P Q a w := by
  refine wp_region_any hm ?_
  refine wpAny_inv I hA hstep hdone ops.size (Array.replicate ops.size false) a _ (by simp) ?_ (by have := List.countP_le_length (p := fun j => !(Array.replicate ops.size false).getD j true) (l := List.range ops.size); simpa using this)
  have : (fun j => (Array.replicate ops.size false).getD j true) = (fun j => decide (ops.size ≤ j)) := funext fun j => by
    by_cases hj : j < ops.size
    · simp [Array.getD_eq_getD_getElem?, hj]
    · simp [Array.getD_eq_getD_getElem?, hj]; omega
  rw [this]; exact h0
end
end Go.Proofs.Ytiajoppbgebnpaa
