/- quadrillelaw12.call: of every call. A statement whose order is drawn, by what is kept: whatever may come up next keeps it; then it holds at the end, whatever the order was. One goal an operation in place of one an order. No Go in sight. ShiftAll's drawn statement 'a, e, b, f := call(..)': what is kept whatever comes first: the two variables' blocks, the two trees. No Go in sight. -/
import Derived.Test.YtnikmbkkhfmbeaaClG12
import Derived.StillTail
import Derived.RegionTactic
namespace Go.Proofs.Ytnikmbkkhfmbeaa
open Go.RowKit Go.Sort
set_option linter.unusedVariables false

/-- The error that a call answers. -/
def clEr (K M : Int) (u : Ex) : Int := if K = 1 then mayR u else if K = 2 then spotR u M 0 else spotR u 0 M
/-- How a call moves. -/
def clMv (K M N : Int) : Mv := if K = 1 then pasR M N else if K = 2 then rowR M N else colR M N
theorem call_any (K M N : Int) (u : Ex) (n1 n2 : Nd) (a1 a2 : Option Addr) (l1 c1 l2 c2 : Nat) (w : World) (h1 : Tree w (exV n1 (.slice a1 l1 c1)) u) (G : Nat) (hG : G ≤ w.heap.size) (h2 : In (· < G) w (exV n2 (.slice a2 l2 c2)) u) :
    Calls Try.prog 8 #[.agg (opX K M N n2 (.slice a2 l2 c2)), exV n1 (.slice a1 l1 c1)] w fun e w' => ClP G w (clEr K M u) (movE (clMv K M N) u) e w' := by
  unfold clEr clMv
  by_cases k1 : K = 1
  · rw [if_pos k1, if_pos k1]
    by_cases he : mayR u = 0
    · exact call_1t K M N u n1 n2 a1 a2 l1 c1 l2 c2 w h1 G hG h2 (by simp [k1]) he
    · exact call_1f K M N u n1 n2 a1 a2 l1 c1 l2 c2 w h1 G hG h2 (by simp [k1]) he
  · rw [if_neg k1, if_neg k1]
    by_cases k2 : K = 2
    · rw [if_pos k2, if_pos k2]
      by_cases he : spotR u M 0 = 0
      · exact call_2t K M N u n1 n2 a1 a2 l1 c1 l2 c2 w h1 G hG h2 (by simp [k1]) (by simp [k2]) he
      · exact call_2f K M N u n1 n2 a1 a2 l1 c1 l2 c2 w h1 G hG h2 (by simp [k1]) (by simp [k2]) he
    · rw [if_neg k2, if_neg k2]
      by_cases he : spotR u 0 M = 0
      · exact call_3t K M N u n1 n2 a1 a2 l1 c1 l2 c2 w h1 G hG h2 (by simp [k1]) (by simp [k2]) he
      · exact call_3f K M N u n1 n2 a1 a2 l1 c1 l2 c2 w h1 G hG h2 (by simp [k1]) (by simp [k2]) he
end Go.Proofs.Ytnikmbkkhfmbeaa
namespace Go.Proofs.Ytnikmbkkhfmbeaa
open Go

section
variable {P : Program} {ops : Array Oper} {md : Region.Mode} {Q : Exit → Act → World → Prop}

theorem rg_count {p q : Nat → Bool} : ∀ l : List Nat, (∀ j, q j = true → p j = true) → (∃ i ∈ l, p i = true ∧ q i = false) → l.countP q < l.countP p
  | [], _, h => by obtain ⟨i, hi, _⟩ := h; cases hi
  | x :: l, hqp, h => by
    have mono : l.countP q ≤ l.countP p := List.countP_mono_left fun j _ hj => hqp j hj
    rw [List.countP_cons, List.countP_cons]
    obtain ⟨i, hi, h1, h2⟩ := h
    rcases List.mem_cons.1 hi with rfl | hi
    · rw [h1, h2]; simp; omega
    · have := rg_count l hqp ⟨i, hi, h1, h2⟩
      by_cases hx : q x = true
      · rw [hx, hqp x hx]; simp; omega
      · have hx' : q x = false := by simpa using hx
        rw [hx', if_neg (by simp)]
        by_cases hp : p x = true
        · rw [if_pos hp]; omega
        · rw [if_neg hp]; omega
/-- What each operation waits for stands ahead of it. -/
def aheadB (md : Region.Mode) (ops : Array Oper) : Bool := (List.range ops.size).all fun i => match ops[i]? with
  | some o => o.after.all fun e => !Region.binds md e || decide (e.on < i)
  | none => true
theorem aheadB_spec (h : aheadB md ops = true) {i : Nat} {o : Oper} (ho : ops[i]? = some o) {e : Edge} (he : e ∈ o.after) (hb : Region.binds md e = true) : e.on < i := by
  have hi : i < ops.size := (Array.getElem?_eq_some_iff.1 ho).1
  have h1 := List.all_eq_true.1 h i (List.mem_range.2 hi)
  rw [ho] at h1
  have h2 := (Array.all_eq_true_iff_forall_mem.1 h1) e he
  simpa [hb] using h2
/-- Where something is left, something may come up. -/
theorem rg_left (hA : aheadB md ops = true) (listed : Array Bool) (hs : listed.size = ops.size) : ∀ i, i < ops.size → listed.getD i true = false → Region.ready md ops listed ≠ [] := by
  intro i
  induction i using Nat.strongRecOn with
  | ind i ih =>
    intro hi hl
    by_cases hr : i ∈ Region.ready md ops listed
    · intro e; rw [e] at hr; cases hr
    · have ho : ops[i]? = some ops[i] := Array.getElem?_eq_getElem hi
      have : ∃ e ∈ ops[i].after, Region.binds md e = true ∧ listed.getD e.on false = false := Classical.byContradiction fun hn => hr (mem_ready.2 ⟨hl, _, ho, fun e he hb => by
        cases hg : listed.getD e.on false with
        | true => rfl
        | false => exact absurd ⟨e, he, hb, hg⟩ hn⟩)
      obtain ⟨e, he, hbn, hg⟩ := this
      have hlt := aheadB_spec hA ho he hbn
      refine ih e.on hlt (by omega) ?_
      have hb : e.on < listed.size := by omega
      simp only [Array.getD_eq_getD_getElem?, Array.getElem?_eq_getElem hb, Option.getD_some] at hg ⊢
      exact hg
theorem wpAny_inv (I : (Nat → Bool) → Act → World → Prop) (hA : aheadB md ops = true)
    (hstep : ∀ i, i < ops.size → ∀ (L : Nat → Bool) a w, I L a w → L i = false → (∀ o, ops[i]? = some o → ∀ e ∈ o.after, Region.binds md e = true → L e.on = true) → wpOp P ops Q i (fun a' w' => I (fun j => if j = i then true else L j) a' w') a w)
    (hdone : ∀ (L : Nat → Bool) a w, (∀ i, i < ops.size → L i = true) → I L a w → Q .normal a w) :
    ∀ (fuel : Nat) (listed : Array Bool) (a : Act) (w : World), listed.size = ops.size → I (fun j => listed.getD j true) a w → (List.range ops.size).countP (fun j => !listed.getD j true) ≤ fuel → wpAny P md ops Q fuel listed a w
  | 0, listed, a, w, hs, hI, hf => by
    have hall : ∀ i, i < ops.size → listed.getD i true = true := fun i hi => by
      have h0 : (List.range ops.size).countP (fun j => !listed.getD j true) = 0 := by omega
      have := List.countP_eq_zero.1 h0 i (List.mem_range.2 hi)
      simpa using this
    refine ⟨?_, hdone _ a w hall hI⟩
    cases hr : Region.ready md ops listed with
    | nil => rfl
    | cons j l =>
      have hj : j ∈ Region.ready md ops listed := by rw [hr]; exact List.mem_cons_self ..
      obtain ⟨h1, o, ho, _⟩ := mem_ready.1 hj
      have := hall j (Array.getElem?_eq_some_iff.1 ho).1
      rw [h1] at this; cases this
  | fuel + 1, listed, a, w, hs, hI, hf => by
    refine ⟨fun hr => hdone _ a w (fun i hi => ?_) hI, fun i hi => ?_⟩
    · cases hg : listed.getD i true with
      | true => rfl
      | false => exact absurd hr (rg_left hA listed hs i hi hg)
    · obtain ⟨h1, o, ho, hall⟩ := mem_ready.1 hi
      have hlt := (Array.getElem?_eq_some_iff.1 ho).1
      have := hstep i hlt _ a w hI h1 (fun o' ho' e he hb => by
        rw [ho] at ho'; cases ho'
        have hg := hall e he hb
        have hb' : e.on < listed.size := by have := aheadB_spec hA ho he hb; omega
        simp only [Array.getD_eq_getD_getElem?, Array.getElem?_eq_getElem hb', Option.getD_some] at hg ⊢
        exact hg)
      refine wpOp_mono (fun a' w' h' => ?_) this
      have e1 : ∀ j, (listed.setIfInBounds i true).getD j true = if j = i then true else listed.getD j true := fun j => by
        simp only [Array.getD_eq_getD_getElem?, Array.getElem?_setIfInBounds]
        by_cases hji : i = j
        · subst hji; simp; split <;> simp
        · rw [if_neg hji, if_neg (fun e => hji e.symm)]
      refine wpAny_inv I hA hstep hdone fuel _ a' w' (by rw [Array.size_setIfInBounds]; exact hs) ?_ ?_
      · have : (fun j => (listed.setIfInBounds i true).getD j true) = (fun j => if j = i then true else listed.getD j true) := funext e1
        rw [this]; exact h'
      · have := rg_count (p := fun j => !listed.getD j true) (q := fun j => !(listed.setIfInBounds i true).getD j true) (List.range ops.size) (fun j hj => by
          simp only [e1] at hj
          by_cases hji : j = i
          · rw [if_pos hji] at hj; cases hj
          · rw [if_neg hji] at hj; exact hj) ⟨i, List.mem_range.2 hlt, by simp only [h1]; rfl, by simp only [e1, if_true]; rfl⟩
        omega
/-- A statement whose order is drawn. -/
theorem region_inv {id : Nat} {a : Act} {w : World} (I : (Nat → Bool) → Act → World → Prop) (hm : P.follows .mixedOrders = true) (hA : aheadB .any ops = true) (h0 : I (fun j => decide (ops.size ≤ j)) a { w with drawn := w.drawn + 1 })
    (hstep : ∀ i, i < ops.size → ∀ (L : Nat → Bool) a w, I L a w → L i = false → (∀ o, ops[i]? = some o → ∀ e ∈ o.after, Region.binds .any e = true → L e.on = true) → wpOp P ops Q i (fun a' w' => I (fun j => if j = i then true else L j) a' w') a w)
    (hdone : ∀ (L : Nat → Bool) a w, (∀ i, i < ops.size → L i = true) → I L a w → Q .normal a w) : (Code.region id ops true).wp P Q a w := by
  refine wp_region_any hm ?_
  refine wpAny_inv I hA hstep hdone ops.size (Array.replicate ops.size false) a _ (by simp) ?_ (by have := List.countP_le_length (p := fun j => !(Array.replicate ops.size false).getD j true) (l := List.range ops.size); simpa using this)
  have : (fun j => (Array.replicate ops.size false).getD j true) = (fun j => decide (ops.size ≤ j)) := funext fun j => by
    by_cases hj : j < ops.size
    · simp [Array.getD_eq_getD_getElem?, hj]
    · simp [Array.getD_eq_getD_getElem?, hj]; omega
  rw [this]; exact h0
end
end Go.Proofs.Ytnikmbkkhfmbeaa
namespace Go.Proofs.Ytnikmbkkhfmbeaa
open Go.RowKit Go.Sort
set_option linter.unusedVariables false

/-- Which blocks an answered tree lies in. -/
def kd (l11 l12 : Bool) (X5 X7 G S k : Nat) : Prop := k < G ∨ ((l11 = true → k ≠ X5) ∧ (l12 = true → k ≠ X7) ∧ k < S)
abbrev z14 : Array Value := exC nd0 (.slice none 0 0)
/-- What is kept. -/
structure S8 (base : World) (L : Nat → Bool) (w : World) (X5 X7 : Nat) (un : Nd) (s1 s2 : Value) (u : Ex) : Prop where
  low : Below base.heap.size base w
  o6 : L 6 = true ∨ L 7 = true ∨ L 9 = true → L 5 = true
  o13 : L 13 = true → L 5 = true ∧ L 11 = true
  o15 : L 15 = true → L 5 = true ∧ L 12 = true
  t1 : L 5 = true → In (kd (L 11) (L 12) X5 X7 base.heap.size w.heap.size) w (exV un s1) u
  t2 : L 5 = true → In (kd (L 11) (L 12) X5 X7 base.heap.size w.heap.size) w (exV un s2) u
  b5 : L 11 = true → base.heap.size ≤ X5 ∧ X5 < w.heap.size ∧ Blk w X5 (if L 13 = true then exC un s1 else z14) 29
  b7 : L 12 = true → base.heap.size ≤ X7 ∧ X7 < w.heap.size ∧ Blk w X7 (if L 15 = true then exC un s2 else z14) 29
  ne : L 11 = true → L 12 = true → X5 ≠ X7
theorem of6 {L : Nat → Bool} {i : Nat} (h : L 6 = true ∨ L 7 = true ∨ L 9 = true → L 5 = true) (hq : i = 6 ∨ i = 7 ∨ i = 9 → L 5 = true) (q : (if 6 = i then true else L 6) = true ∨ (if 7 = i then true else L 7) = true ∨ (if 9 = i then true else L 9) = true) : L 5 = true := by
  by_cases h6 : 6 = i
  · exact hq (.inl h6.symm)
  by_cases h7 : 7 = i
  · exact hq (.inr (.inl h7.symm))
  by_cases h9 : 9 = i
  · exact hq (.inr (.inr h9.symm))
  rw [if_neg h6, if_neg h7, if_neg h9] at q
  exact h q
variable {base w : World} {L : Nat → Bool} {X5 X7 : Nat} {un : Nd} {s1 s2 : Value} {u : Ex}
theorem S8.same (h : S8 base L w X5 X7 un s1 s2 u) (i : Nat) (hi : i ≠ 5 ∧ i ≠ 11 ∧ i ≠ 12 ∧ i ≠ 13 ∧ i ≠ 15) (hq : i = 6 ∨ i = 7 ∨ i = 9 → L 5 = true) : S8 base (fun j => if j = i then true else L j) w X5 X7 un s1 s2 u := by
  obtain ⟨a, b, c, d, e⟩ := hi
  have e5 : (if 5 = i then true else L 5) = L 5 := if_neg (fun h => a h.symm)
  have e11 : (if 11 = i then true else L 11) = L 11 := if_neg (fun h => b h.symm)
  have e12 : (if 12 = i then true else L 12) = L 12 := if_neg (fun h => c h.symm)
  have e13 : (if 13 = i then true else L 13) = L 13 := if_neg (fun h => d h.symm)
  have e15 : (if 15 = i then true else L 15) = L 15 := if_neg (fun h => e h.symm)
  exact ⟨h.low, (fun q => by rw [e5]; exact of6 h.o6 hq q), by rw [e13, e5, e11]; exact h.o13, by rw [e15, e5, e12]; exact h.o15, by rw [e5, e11, e12]; exact h.t1, by rw [e5, e11, e12]; exact h.t2, by rw [e11, e13]; exact h.b5, by rw [e12, e15]; exact h.b7, by rw [e11, e12]; exact h.ne⟩
theorem S8.start (base w : World) (hb : Below base.heap.size base w) (L : Nat → Bool) (h : ∀ j, j < 17 → L j = false) : S8 base L w 0 0 un s1 s2 u :=
  have f : ∀ j, j < 17 → L j = true → False := fun j hj hq => by rw [h j hj] at hq; cases hq
  ⟨hb, (fun q => by rcases q with q | q | q; exact (f 6 (by decide) q).elim; exact (f 7 (by decide) q).elim; exact (f 9 (by decide) q).elim), fun q => (f 13 (by decide) q).elim, fun q => (f 15 (by decide) q).elim, fun q => (f 5 (by decide) q).elim, fun q => (f 5 (by decide) q).elim, fun q => (f 11 (by decide) q).elim, fun q => (f 12 (by decide) q).elim, fun q => (f 11 (by decide) q).elim⟩
theorem S8.call {s1' s2' : Value} (h : S8 base L w X5 X7 un s1 s2 u) (h5 : L 5 = false) {w' : World} (hb : Below w.heap.size w w') (i1 : In (OldN base.heap.size w.heap.size w'.heap.size) w' (exV un s1') u) (i2 : In (OldN base.heap.size w.heap.size w'.heap.size) w' (exV un s2') u) :
    S8 base (fun j => if j = 5 then true else L j) w' X5 X7 un s1' s2' u := by
  have f13 : L 13 = false := by cases q : L 13 with | false => rfl | true => have := (h.o13 q).1; rw [h5] at this; cases this
  have f15 : L 15 = false := by cases q : L 15 with | false => rfl | true => have := (h.o15 q).1; rw [h5] at this; cases this
  have k : ∀ k, OldN base.heap.size w.heap.size w'.heap.size k → kd (L 11) (L 12) X5 X7 base.heap.size w'.heap.size k ∧ w'.heap[k]? = w'.heap[k]? := fun k hk => by
    rcases hk with hk | hk
    · exact ⟨.inl hk, rfl⟩
    · exact ⟨.inr ⟨fun q => by have := (h.b5 q).2.1; omega, fun q => by have := (h.b7 q).2.1; omega, hk.2⟩, rfl⟩
  refine ⟨next h.low hb, fun _ => rfl, fun q => ?_, fun q => ?_, fun _ => i1.move k, fun _ => i2.move k, fun q => ?_, fun q => ?_, h.ne⟩
  · have q' : L 13 = true := q; rw [f13] at q'; cases q'
  · have q' : L 15 = true := q; rw [f15] at q'; cases q'
  · obtain ⟨a, b, c⟩ := h.b5 q
    refine ⟨a, Nat.lt_of_lt_of_le b hb.size, ?_⟩
    show Blk w' X5 (if L 13 = true then _ else _) _
    rw [if_neg (by rw [f13]; decide)] at c ⊢
    exact (hb.block X5 b).trans c
  · obtain ⟨a, b, c⟩ := h.b7 q
    refine ⟨a, Nat.lt_of_lt_of_le b hb.size, ?_⟩
    show Blk w' X7 (if L 15 = true then _ else _) _
    rw [if_neg (by rw [f15]; decide)] at c ⊢
    exact (hb.block X7 b).trans c
theorem S8.al5 (h : S8 base L w X5 X7 un s1 s2 u) (h11 : L 11 = false) : S8 base (fun j => if j = 11 then true else L j) (w.alloc (.cells z14 29)) w.heap.size X7 un s1 s2 u := by
  have f13 : L 13 = false := by cases q : L 13 with | false => rfl | true => have := (h.o13 q).2; rw [h11] at this; cases this
  have hs : (w.alloc (.cells z14 29)).heap.size = w.heap.size + 1 := by simp
  have k : ∀ k, kd (L 11) (L 12) X5 X7 base.heap.size w.heap.size k → kd true (L 12) w.heap.size X7 base.heap.size (w.alloc (.cells z14 29)).heap.size k ∧ (w.alloc (.cells z14 29)).heap[k]? = w.heap[k]? := fun k hk => by
    have hlt : k < w.heap.size := by rcases hk with hk | hk; exact Nat.lt_of_lt_of_le hk h.low.size; exact hk.2.2
    refine ⟨?_, Below.heap_alloc w _ k hlt⟩
    rcases hk with hk | hk
    · exact .inl hk
    · exact .inr ⟨fun _ => by omega, hk.2.1, by omega⟩
  refine ⟨step h.low _, h.o6, fun q => ?_, h.o15, fun q => (h.t1 q).move k, fun q => (h.t2 q).move k, fun _ => ?_, fun q => ?_, fun _ q => ?_⟩
  · have q' : L 13 = true := q; rw [f13] at q'; cases q'
  · refine ⟨h.low.size, by omega, ?_⟩
    show Blk _ _ (if L 13 = true then _ else _) _
    rw [if_neg (by rw [f13]; decide)]
    exact Blk.new _ _ _
  · obtain ⟨a, b, c⟩ := h.b7 q
    exact ⟨a, by omega, (Below.heap_alloc w _ X7 b).trans c⟩
  · have := (h.b7 q).2.1; omega
theorem S8.al7 (h : S8 base L w X5 X7 un s1 s2 u) (h12 : L 12 = false) : S8 base (fun j => if j = 12 then true else L j) (w.alloc (.cells z14 29)) X5 w.heap.size un s1 s2 u := by
  have f15 : L 15 = false := by cases q : L 15 with | false => rfl | true => have := (h.o15 q).2; rw [h12] at this; cases this
  have hs : (w.alloc (.cells z14 29)).heap.size = w.heap.size + 1 := by simp
  have k : ∀ k, kd (L 11) (L 12) X5 X7 base.heap.size w.heap.size k → kd (L 11) true X5 w.heap.size base.heap.size (w.alloc (.cells z14 29)).heap.size k ∧ (w.alloc (.cells z14 29)).heap[k]? = w.heap[k]? := fun k hk => by
    have hlt : k < w.heap.size := by rcases hk with hk | hk; exact Nat.lt_of_lt_of_le hk h.low.size; exact hk.2.2
    refine ⟨?_, Below.heap_alloc w _ k hlt⟩
    rcases hk with hk | hk
    · exact .inl hk
    · exact .inr ⟨hk.1, fun _ => by omega, by omega⟩
  refine ⟨step h.low _, h.o6, h.o13, fun q => ?_, fun q => (h.t1 q).move k, fun q => (h.t2 q).move k, fun q => ?_, fun _ => ?_, fun q _ => ?_⟩
  · have q' : L 15 = true := q; rw [f15] at q'; cases q'
  · obtain ⟨a, b, c⟩ := h.b5 q
    exact ⟨a, by omega, (Below.heap_alloc w _ X5 b).trans c⟩
  · refine ⟨h.low.size, by omega, ?_⟩
    show Blk _ _ (if L 15 = true then _ else _) _
    rw [if_neg (by rw [f15]; decide)]
    exact Blk.new _ _ _
  · have := (h.b5 q).2.1; omega
theorem kd_set {w : World} {l11 l12 : Bool} {X5 X7 G S X : Nat} {cs : Array Value} (hX : G ≤ X) (hx : (l11 = true ∧ X = X5) ∨ (l12 = true ∧ X = X7)) : ∀ k, kd l11 l12 X5 X7 G S k → kd l11 l12 X5 X7 G S k ∧ (w.setRow X cs).heap[k]? = w.heap[k]? := fun k hk => by
  refine ⟨hk, setRow_other _ _ _ _ ?_⟩
  rcases hk with hk | hk
  · omega
  · rcases hx with ⟨h1, rfl⟩ | ⟨h1, rfl⟩
    · exact hk.1 h1
    · exact hk.2.1 h1
theorem low_set {base w : World} {X : Nat} {cs : Array Value} (hb : Below base.heap.size base w) (hX : base.heap.size ≤ X) : Below base.heap.size base (w.setRow X cs) :=
  ⟨hb.os, hb.tape, hb.output, by rw [size_setRow]; exact hb.size, fun k hk => (setRow_other _ _ _ _ (by omega)).trans (hb.block k hk)⟩
theorem S8.st5 (h : S8 base L w X5 X7 un s1 s2 u) (h5 : L 5 = true) (h11 : L 11 = true) (h13 : L 13 = false) : Blk w X5 z14 29 ∧ S8 base (fun j => if j = 13 then true else L j) (w.setRow X5 (exC un s1)) X5 X7 un s1 s2 u := by
  obtain ⟨a, b, c⟩ := h.b5 h11
  rw [if_neg (by rw [h13]; decide)] at c
  have k := fun k hk => kd_set (w := w) (cs := exC un s1) (S := w.heap.size) (l12 := L 12) (X7 := X7) a (.inl ⟨h11, rfl⟩) k hk
  refine ⟨c, ⟨low_set h.low a, h.o6, fun _ => ⟨h5, h11⟩, h.o15, fun q => ?_, fun q => ?_, fun _ => ?_, fun q => ?_, h.ne⟩⟩
  · rw [size_setRow]; exact (h.t1 q).move k
  · rw [size_setRow]; exact (h.t2 q).move k
  · refine ⟨a, by rw [size_setRow]; exact b, ?_⟩
    exact setRow_heap _ _ _ _ _ _ c
  · obtain ⟨a', b', c'⟩ := h.b7 q
    exact ⟨a', by rw [size_setRow]; exact b', (setRow_other _ _ _ _ (fun e => h.ne h11 q e.symm)).trans c'⟩
theorem S8.st7 (h : S8 base L w X5 X7 un s1 s2 u) (h5 : L 5 = true) (h12 : L 12 = true) (h15 : L 15 = false) : Blk w X7 z14 29 ∧ S8 base (fun j => if j = 15 then true else L j) (w.setRow X7 (exC un s2)) X5 X7 un s1 s2 u := by
  obtain ⟨a, b, c⟩ := h.b7 h12
  rw [if_neg (by rw [h15]; decide)] at c
  have k := fun k hk => kd_set (w := w) (cs := exC un s2) (S := w.heap.size) (l11 := L 11) (X5 := X5) a (.inr ⟨h12, rfl⟩) k hk
  refine ⟨c, ⟨low_set h.low a, h.o6, h.o13, fun _ => ⟨h5, h12⟩, fun q => ?_, fun q => ?_, fun q => ?_, fun _ => ?_, h.ne⟩⟩
  · rw [size_setRow]; exact (h.t1 q).move k
  · rw [size_setRow]; exact (h.t2 q).move k
  · obtain ⟨a', b', c'⟩ := h.b5 q
    exact ⟨a', by rw [size_setRow]; exact b', (setRow_other _ _ _ _ (fun e => h.ne q h12 e)).trans c'⟩
  · refine ⟨a, by rw [size_setRow]; exact b, ?_⟩
    exact setRow_heap _ _ _ _ _ _ c
theorem S8.tree1 (h : S8 base L w X5 X7 un s1 s2 u) (h5 : L 5 = true) : Tree w (exV un s1) u ∧ Tree w (exV un s2) u := by
  have k : ∀ k, kd (L 11) (L 12) X5 X7 base.heap.size w.heap.size k → k < w.heap.size ∧ w.heap[k]? = w.heap[k]? := fun k hk => ⟨by rcases hk with hk | hk; exact Nat.lt_of_lt_of_le hk h.low.size; exact hk.2.2, rfl⟩
  exact ⟨(h.t1 h5).move k, (h.t2 h5).move k⟩
end Go.Proofs.Ytnikmbkkhfmbeaa
