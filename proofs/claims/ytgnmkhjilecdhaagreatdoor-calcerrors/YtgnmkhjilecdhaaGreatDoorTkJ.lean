/- A statement whose order is drawn, by what is kept: whatever may come up next keeps it; then it holds at the end, whatever the order was. One goal an operation in place of one an order. No Go in sight. CalcTexts: quadrillelaw14.is of three and of four arguments; what is told of texts' pieces. -/
import Derived.StillTail
import Derived.RegionTactic
import Derived.Test.YtgnmkhjilecdhaaGreatDoorTxF14
import Derived.Test.YtgnmkhjilecdhaaGreatDoorSnd5
import Derived.Test.YtgnmkhjilecdhaaGreatDoorCase5
import Derived.Test.YtgnmkhjilecdhaaGreatDoorTrJ
namespace Go.Proofs.YtgnmkhjilecdhaaGreatDoor
open Go

section
variable {P : Program} {ops : Array Oper} {md : Region.Mode} {Q : Exit → Act → World → Prop}

theorem rg_count {p q : Nat → Bool} : ∀ l : List Nat, (∀ j, q j = true → p j = true) → (∃ i ∈ l, p i = true ∧ q i = false) → l.countP q < l.countP p
  | [], _, h => by obtain ⟨i, hi, _⟩ := h; cases hi
  | x :: l, hqp, h => by
    have mono : l.countP q ≤ l.countP p := List.countP_mono_left fun j _ hj => hqp j hj
    rw [List.countP_cons, List.countP_cons]
    obtain ⟨i, hi, h1, h2⟩ := h
    rcases List.mem_cons.1 hi with rfl | hi
    · rw [h1, h2]; simp; omega
    · have := rg_count l hqp ⟨i, hi, h1, h2⟩
      by_cases hx : q x = true
      · rw [hx, hqp x hx]; simp; omega
      · have hx' : q x = false := by simpa using hx
        rw [hx', if_neg (by simp)]
        by_cases hp : p x = true
        · rw [if_pos hp]; omega
        · rw [if_neg hp]; omega
/-- What each operation waits for stands ahead of it. -/
def aheadB (ops : Array Oper) : Bool := (List.range ops.size).all fun i => match ops[i]? with
  | some o => o.after.all fun e => decide (e.on < i)
  | none => true
theorem aheadB_spec (h : aheadB ops = true) {i : Nat} {o : Oper} (ho : ops[i]? = some o) {e : Edge} (he : e ∈ o.after) : e.on < i := by
  have hi : i < ops.size := (Array.getElem?_eq_some_iff.1 ho).1
  have h1 := List.all_eq_true.1 h i (List.mem_range.2 hi)
  rw [ho] at h1
  have h2 := (Array.all_eq_true_iff_forall_mem.1 h1) e he
  simpa using h2
/-- Where something is left, something may come up. -/
theorem rg_left (hA : aheadB ops = true) (listed : Array Bool) (hs : listed.size = ops.size) : ∀ i, i < ops.size → listed.getD i true = false → Region.ready md ops listed ≠ [] := by
  intro i
  induction i using Nat.strongRecOn with
  | ind i ih =>
    intro hi hl
    by_cases hr : i ∈ Region.ready md ops listed
    · intro e; rw [e] at hr; cases hr
    · have ho : ops[i]? = some ops[i] := Array.getElem?_eq_getElem hi
      have : ∃ e ∈ ops[i].after, listed.getD e.on false = false := Classical.byContradiction fun hn => hr (mem_ready.2 ⟨hl, _, ho, fun e he _ => by
        cases hg : listed.getD e.on false with
        | true => rfl
        | false => exact absurd ⟨e, he, hg⟩ hn⟩)
      obtain ⟨e, he, hg⟩ := this
      have hlt := aheadB_spec hA ho he
      refine ih e.on hlt (by omega) ?_
      have hb : e.on < listed.size := by omega
      simp only [Array.getD_eq_getD_getElem?, Array.getElem?_eq_getElem hb, Option.getD_some] at hg ⊢
      exact hg
theorem wpAny_inv (I : (Nat → Bool) → Act → World → Prop) (hA : aheadB ops = true)
    (hstep : ∀ i, i < ops.size → ∀ (L : Nat → Bool) a w, I L a w → L i = false → (∀ o, ops[i]? = some o → ∀ e ∈ o.after, Region.binds md e = true → L e.on = true) → wpOp P ops Q i (fun a' w' => I (fun j => if j = i then true else L j) a' w') a w)
    (hdone : ∀ (L : Nat → Bool) a w, (∀ i, i < ops.size → L i = true) → I L a w → Q .normal a w) :
    ∀ (fuel : Nat) (listed : Array Bool) (a : Act) (w : World), listed.size = ops.size → I (fun j => listed.getD j true) a w → (List.range ops.size).countP (fun j => !listed.getD j true) ≤ fuel → wpAny P md ops Q fuel listed a w
  | 0, listed, a, w, hs, hI, hf => by
    have hall : ∀ i, i < ops.size → listed.getD i true = true := fun i hi => by
      have h0 : (List.range ops.size).countP (fun j => !listed.getD j true) = 0 := by omega
      have := List.countP_eq_zero.1 h0 i (List.mem_range.2 hi)
      simpa using this
    refine ⟨?_, hdone _ a w hall hI⟩
    cases hr : Region.ready md ops listed with
    | nil => rfl
    | cons j l =>
      have hj : j ∈ Region.ready md ops listed := by rw [hr]; exact List.mem_cons_self ..
      obtain ⟨h1, o, ho, _⟩ := mem_ready.1 hj
      have := hall j (Array.getElem?_eq_some_iff.1 ho).1
      rw [h1] at this; cases this
  | fuel + 1, listed, a, w, hs, hI, hf => by
    refine ⟨fun hr => hdone _ a w (fun i hi => ?_) hI, fun i hi => ?_⟩
    · cases hg : listed.getD i true with
      | true => rfl
      | false => exact absurd hr (rg_left hA listed hs i hi hg)
    · obtain ⟨h1, o, ho, hall⟩ := mem_ready.1 hi
      have hlt := (Array.getElem?_eq_some_iff.1 ho).1
      have := hstep i hlt _ a w hI h1 (fun o' ho' e he hb => by
        rw [ho] at ho'; cases ho'
        have hg := hall e he hb
        have hb' : e.on < listed.size := by have := aheadB_spec hA ho he; omega
        simp only [Array.getD_eq_getD_getElem?, Array.getElem?_eq_getElem hb', Option.getD_some] at hg ⊢
        exact hg)
      refine wpOp_mono (fun a' w' h' => ?_) this
      have e1 : ∀ j, (listed.setIfInBounds i true).getD j true = if j = i then true else listed.getD j true := fun j => by
        simp only [Array.getD_eq_getD_getElem?, Array.getElem?_setIfInBounds]
        by_cases hji : i = j
        · subst hji; simp; split <;> simp
        · rw [if_neg hji, if_neg (fun e => hji e.symm)]
      refine wpAny_inv I hA hstep hdone fuel _ a' w' (by rw [Array.size_setIfInBounds]; exact hs) ?_ ?_
      · have : (fun j => (listed.setIfInBounds i true).getD j true) = (fun j => if j = i then true else listed.getD j true) := funext e1
        rw [this]; exact h'
      · have := rg_count (p := fun j => !listed.getD j true) (q := fun j => !(listed.setIfInBounds i true).getD j true) (List.range ops.size) (fun j hj => by
          simp only [e1] at hj
          by_cases hji : j = i
          · rw [if_pos hji] at hj; cases hj
          · rw [if_neg hji] at hj; exact hj) ⟨i, List.mem_range.2 hlt, by simp only [h1]; rfl, by simp only [e1, if_true]; rfl⟩
        omega
/-- A statement whose order is drawn. -/
theorem region_inv {id : Nat} {a : Act} {w : World} (I : (Nat → Bool) → Act → World → Prop) (hm : P.follows .mixedOrders = true) (hA : aheadB ops = true) (h0 : I (fun j => decide (ops.size ≤ j)) a { w with drawn := w.drawn + 1 })
    (hstep : ∀ i, i < ops.size → ∀ (L : Nat → Bool) a w, I L a w → L i = false → (∀ o, ops[i]? = some o → ∀ e ∈ o.after, Region.binds .any e = true → L e.on = true) → wpOp P ops Q i (fun a' w' => I (fun j => if j = i then true else L j) a' w') a w)
    (hdone : ∀ (L : Nat → Bool) a w, (∀ i, i < ops.size → L i = true) → I L a w → Q .normal a w) : (Code.region id ops true).wp P Q a w := by
  refine wp_region_any hm ?_
  refine wpAny_inv I hA hstep hdone ops.size (Array.replicate ops.size false) a _ (by simp) ?_ (by have := List.countP_le_length (p := fun j => !(Array.replicate ops.size false).getD j true) (l := List.range ops.size); simpa using this)
  have : (fun j => (Array.replicate ops.size false).getD j true) = (fun j => decide (ops.size ≤ j)) := funext fun j => by
    by_cases hj : j < ops.size
    · simp [Array.getD_eq_getD_getElem?, hj]
    · simp [Array.getD_eq_getD_getElem?, hj]; omega
  rw [this]; exact h0
end
end Go.Proofs.YtgnmkhjilecdhaaGreatDoor
namespace Go.Proofs.YtgnmkhjilecdhaaGreatDoor
open Go.RowKit Go.Sort
set_option linter.unusedVariables false

theorem lk {L : Nat → Bool} {j k : Nat} (h : (if j = k then true else L j) = true) (hn : j ≠ k) : L j = true := by rwa [if_neg hn] at h
theorem lkf {L : Nat → Bool} {j k : Nat} (h : (if j = k then true else L j) = false) (hn : j ≠ k) : L j = false := by rwa [if_neg hn] at h
/-- A slice that a statement has laid. -/
def SlF (w : World) (x : Value) (n : Nat) (l : List Va) : Prop := ∃ b, x = .slice (some ⟨b, 0, none⟩) n n ∧ ValsAt w (some ⟨b, 0, none⟩) l
theorem SlF.keep {w w' : World} {x : Value} {n : Nat} {l : List Va} (h : SlF w x n l) (hb : Below w.heap.size w w') : SlF w' x n l := by
  obtain ⟨b, e, g⟩ := h
  exact ⟨b, e, g.keep hb⟩
/-- A variable that a statement has laid. -/
def BxF (B : Nat) (w : World) (x : Value) (X : Nat) (v : Va) : Prop := x = .pointer (some ⟨X, 0, none⟩) ∧ B ≤ X ∧ O3 w X (.int .i64 v.k) (.int .i64 v.i) (.string v.t)
theorem BxF.keep {B : Nat} {w w' : World} {x : Value} {X : Nat} {v : Va} (h : BxF B w x X v) (hb : Below w.heap.size w w') : BxF B w' x X v := ⟨h.1, h.2.1, h.2.2.keep hb⟩
theorem BxF.lt {B : Nat} {w : World} {x : Value} {X : Nat} {v : Va} (h : BxF B w x X v) : X < w.heap.size := World.block_lt_of_cell? w _ h.2.2.1.1
theorem app_eq {s t : ByteArray} (h : s.data.toList = t.data.toList) : s = t := by
  apply ByteArray.ext
  exact Array.toList_inj.1 h
theorem cat2_app (s t : ByteArray) : cat2 s t = s ++ t := app_eq (by rw [ByteArray.data_append, Array.toList_append]; rfl)
/-- A piece at the front and the piece behind it. -/
theorem mid_front (s : ByteArray) (m : Nat) : T5.midOf s 0 m = s.extract 0 (T5.sk s m 0) := rfl
theorem mid_back (s : ByteArray) (m : Nat) : T5.midOf s m (T5.rc s 0) = s.extract (T5.sk s m 0) s.size := by
  have h := T5.sk_le s m 0 (Nat.zero_le _)
  have h2 := T5.rc_sk s m 0 (Nat.zero_le _)
  rw [T5.midOf, T5.sk_all s (T5.rc s 0) _ h (by omega)]
/-- Small letters' capitals. -/
theorem up_low (s : ByteArray) : T5.casB 97 65 (T5.casB 65 97 s) = T5.casB 97 65 s := T5.casB_twice 65 97 (by decide) (by decide) T5.cas_ul s
theorem low_size (s : ByteArray) : (T5.casB 65 97 s).size = s.size := T5.casB_size 65 97 s
/-- Where the end of a text stands in it. -/
theorem find_back (s : ByteArray) (m : Nat) (h : m ≤ T5.rc s 0) : ∃ q, T5.fnd s (s.extract (T5.sk s m 0) s.size) (T5.rc s 0 + 2 - 1) 1 = some q ∧ 1 ≤ q ∧ q ≤ m + 1 :=
  T5.fnd_least s _ _ 1 (m + 1) (by omega) (by omega) (by rw [Nat.add_sub_cancel]; exact T5.occ_self s _ (T5.sk_le s m 0 (Nat.zero_le _)))
end Go.Proofs.YtgnmkhjilecdhaaGreatDoor
