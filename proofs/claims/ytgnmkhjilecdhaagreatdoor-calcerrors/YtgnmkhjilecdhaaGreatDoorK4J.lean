/- A statement whose order is drawn: its first n operations only read, or call functions that leave all that was there as it was; the others follow one another in the text's order (they write). One walk in the text's order serves every order. No Go in sight. Small facts that the walks of package value share: what a value's block holds, how it is carried over calls and writings; which values there are. Which values package value and the reference say there are: those of the document, for every kind, number and text. Proved of the Go text. What the small makers of values answer, and what a value is taken for that may not be: #VALUE!. Proved of the Go text. -/
import Derived.StillTail
import Derived.Lib.QuietBelow
import Derived.Test.YtgnmkhjilecdhaaGreatDoorRows
import Derived.Test.YtgnmkhjilecdhaaGreatDoorBgnJ
import Derived.WalkKit
import Derived.WalkSpells
import Derived.WalkLawsBesides
import Derived.Deep.RegionWith
import Derived.BigQuiet
import Derived.Below
import Derived.Handy
namespace Go.Proofs.YtgnmkhjilecdhaaGreatDoor
open Go Go.Sort Go.RowKit

section
variable {P : Program} {ops : Array Oper} {md : Region.Mode} {C : World → Prop}

/-- Whatever order the first n operations come up in, f of them left; L behind them. -/
def anyT (P : Program) (md : Region.Mode) (ops : Array Oper) (C : World → Prop) (n : Nat) (L : Array Bool → Act → Prop) : Nat → Array Bool → Act → Prop
  | 0, listed, a => L listed a
  | f + 1, listed, a => Region.ready md ops listed ≠ [] ∧ ∀ i ∈ Region.ready md ops listed, i < n ∧ qOp P ops C i (anyT P md ops C n L f (listed.setIfInBounds i true)) a

theorem any_of_anyT {n g : Nat} {L : Array Bool → Act → Prop} {Q' : Exit → Act → World → Prop} (hL : ∀ listed a w, C w → L listed a → wpAny P md ops Q' g listed a w) :
    ∀ (f : Nat) (listed : Array Bool) (a : Act) (w : World), C w → anyT P md ops C n L f listed a → wpAny P md ops Q' (f + g) listed a w
  | 0, _, _, _, hw, h => by rw [Nat.zero_add]; exact hL _ _ _ hw h
  | f + 1, _, _, _, hw, h => by
    rw [show f + 1 + g = (f + g) + 1 by omega]
    exact ⟨fun h0 => absurd h0 h.1, fun i hi => wpOp_of_qOp hw (fun a' w' hw' h' => any_of_anyT hL f _ a' w' hw' h') (h.2 i hi).2⟩

theorem anyT_first {n i : Nat} {oi : Oper} {v : Value} {L : Array Bool → Act → Prop} (hi : ops[i]? = some oi) (hsel : ∀ (j : Nat) (o : Oper) cs b, ops[j]? = some o → o.op ≠ .select cs b)
    (hs : Region.sinkB md ops n = true) (hc : Region.chainB md ops n = true) (hn : n < ops.size) (hin : i < n) (hdone : ∀ listed a, L listed a → ∀ j ∈ Region.ready md ops listed, n ≤ j) :
    ∀ (f : Nat) (listed : Array Bool) (a : Act), HeadInv md ops n listed →
      (∀ j oj, ops[j]? = some oj → j ≠ i → listed.getD j true = false → (∀ e ∈ oj.after, Region.binds md e = true → e.on ≠ i) → oi.apart ops oj = true) →
      i ∈ Region.ready md ops listed → YieldsIn P ops C oi v a →
      anyT P md ops C n L f (listed.setIfInBounds i true) (a.put oi.dst v) → anyT P md ops C n L (f + 1) listed a := by
  intro f
  induction f with
  | zero =>
    intro listed a inv _ hr hy H
    have hun := (mem_ready.1 hr).1
    refine ⟨fun h => (by rw [h] at hr; cases hr), fun j hj => ?_⟩
    have hjn : j < n := Classical.byContradiction fun h => absurd hj (tail_waits hs hc hn inv _ i rfl hin hun j (by omega))
    refine ⟨hjn, ?_⟩
    by_cases hji : j = i
    · subst hji; exact hy.qOp hi H
    · have := hdone _ _ H j (ready_mono hj hji)
      omega
  | succ f ih =>
    intro listed a inv hfree hr hy H
    have hun := (mem_ready.1 hr).1
    refine ⟨fun h => (by rw [h] at hr; cases hr), fun j hj => ?_⟩
    have hjn : j < n := Classical.byContradiction fun h => absurd hj (tail_waits hs hc hn inv _ i rfl hin hun j (by omega))
    refine ⟨hjn, ?_⟩
    by_cases hji : j = i
    · subst hji; exact hy.qOp hi H
    · have h1 := (H.2 j (ready_mono hj hji)).2
      obtain ⟨hjun, oj, hoj, hall⟩ := mem_ready.1 hj
      have hnot : ∀ e ∈ oj.after, Region.binds md e = true → e.on ≠ i := fun e he hb heq => by
        have h1 := hall e he hb
        rw [heq, getD_both hun] at h1
        cases h1
      have h2 := qOp_put hoj (hfree j oj hoj hji hjun hnot) (fun cs b => hsel i oi cs b hi) (fun cs b => hsel j oj cs b hoj) hy h1
      refine qOp_mono (fun a' h3 => ih (listed.setIfInBounds j true) a' (inv.set hj hjn) (fun k ok hk hki hun' hno => ?_) (ready_mono hr (Ne.symm hji)) h3.1 ?_) h2
      · refine hfree k ok hk hki ?_ hno
        by_cases hjk : j = k
        · subst hjk; exact hjun
        · rw [getD_set_ne true hjk] at hun'; exact hun'
      · rw [Array.setIfInBounds_comm _ _ hji]
        exact h3.2

theorem anyT_lex {n g : Nat} {Lq : Act → Prop} (hsel : Region.noSelect ops = true) (hs : Region.sinkB md ops n = true) (hc : Region.chainB md ops n = true) (hn : n < ops.size) :
    ∀ (l : List Oper) (k : Nat) (listed : Array Bool) (a : Act), (∀ j, j < l.length → l[j]? = ops[k + j]?) → k + l.length = n → HeadInv md ops n listed →
    Region.lexHead md ops g l.length k listed = true → wpQuiet P ops C Lq l a → anyT P md ops C n (fun listed' a' => Region.seqB md ops g n listed' = true ∧ Lq a') l.length listed a
  | [], k, listed, a, _, hk, _, hB, h => by
    have : k = n := by simpa using hk
    subst this
    exact ⟨by simpa [Region.lexHead] using hB, h⟩
  | o :: l, k, listed, a, hl, hk, inv, hB, h => by
    have h0 : ops[k]? = some o := by simpa using (hl 0 (by simp)).symm
    simp only [List.length_cons, Region.lexHead, Bool.and_eq_true] at hB
    obtain ⟨⟨hr, hf⟩, hB'⟩ := hB
    have hkn : k < n := by simp only [List.length_cons] at hk; omega
    have hr' : k ∈ Region.ready md ops listed := by simpa using hr
    have hst : qOp P ops C k (wpQuiet P ops C Lq l) a := by unfold qOp; simp only [h0]; exact h
    obtain ⟨v, hy, hK⟩ := yieldsIn_of_qOp h0 hst
    exact anyT_first h0 (Region.noSelect_spec hsel) hs hc hn hkn (fun listed' a' hL => seqB_ready hL.1) l.length listed a inv (Region.free_spec h0 hf) hr' hy
      (anyT_lex hsel hs hc hn l (k + 1) _ _ (fun j hj => by have := hl (j + 1) (by simp; omega); simpa [Nat.add_assoc, Nat.add_comm 1 j] using this) (by simp only [List.length_cons] at hk; omega) (inv.set hr' hkn) hB' hK)

theorem quiet_tail {id : Nat} {Q : Exit → Act → World → Prop} {a : Act} {w : World} {l : List Oper} (n : Nat) (hm : P.follows .mixedOrders = true) (hB : Region.lexTailB .any l.toArray n = true)
    (h : wpQuiet P l.toArray (fun w' => ∃ p : Regrown, w' = grow (redrawn w p.d) p.os) (fun a' => ∀ w', (∃ p : Regrown, w' = grow (redrawn w p.d) p.os) → wpList P l.toArray Q (l.drop n) a' w') (l.take n) a) : (Code.region id l.toArray true).wp P Q a w := by
  simp only [Region.lexTailB, Bool.and_eq_true, decide_eq_true_eq] at hB
  obtain ⟨⟨⟨⟨hsel, hn⟩, hs⟩, hc⟩, hlex⟩ := hB
  have hn' : n < l.length := by simpa using hn
  have htl : (l.take n).length = n := by simp; omega
  have hdl : (l.drop n).length = l.toArray.size - n := by simp
  have inv0 : HeadInv .any l.toArray n (Array.replicate l.toArray.size false) :=
    ⟨by simp, fun j oj _ hl => (by rw [getD_replicate_false] at hl; cases hl), fun t _ ht => getD_in (by simpa using ht) (getD_replicate_false _ _)⟩
  have H := anyT_lex (md := .any) (g := l.toArray.size - n) hsel hs hc hn (l.take n) 0 _ a (fun j hj => by
    have hj' : j < n := by rw [htl] at hj; exact hj
    simp [hj']) (by simpa using htl) inv0 (by rw [htl]; exact hlex) h
  refine wp_region_any hm ?_
  have := any_of_anyT (Q' := Q) (g := l.toArray.size - n) (fun listed a' w' hw' hL => by
    have := wpAny_of_seq (md := .any) (Q' := Q) (l.drop n) n listed a' w' (fun j => by simp [List.getElem?_drop]) (by rw [hdl]; exact hL.1) (hL.2 w' hw')
    rwa [hdl] at this) _ _ _ { w with drawn := w.drawn + 1 } ⟨⟨w.drawn + 1, #[]⟩, by rw [grow_empty]; rfl⟩ H
  rw [htl, show n + (l.toArray.size - n) = l.toArray.size by omega] at this
  exact this
end
end Go.Proofs.YtgnmkhjilecdhaaGreatDoor
namespace Go.Proofs.YtgnmkhjilecdhaaGreatDoor
open Go.RowKit Go.Sort
set_option linter.unusedVariables false

theorem next {a w w' : World} (h : Below a.heap.size a w) (hb : Below w.heap.size w w') : Below a.heap.size a w' := h.trans (hb.mono h.size)
theorem step {a w : World} (h : Below a.heap.size a w) (o : Obj) : Below a.heap.size a (w.alloc o) := h.alloc h.size o
theorem keep1 {W w1 : World} {b o : Nat} {v : Value} (hb : Below W.heap.size W w1) (h : W.cell? ⟨b, o, none⟩ = some v) : w1.cell? ⟨b, o, none⟩ = some v := by
  rw [hb.cell (p := ⟨b, o, none⟩) (block_lt_of_cell h)]; exact h
/-- What a block's three cells hold; it may be written. -/
def O3 (w : World) (b : Nat) (v0 v1 v2 : Value) : Prop := (w.cell? ⟨b, 0, none⟩ = some v0 ∧ w.cell? ⟨b, 1, none⟩ = some v1 ∧ w.cell? ⟨b, 2, none⟩ = some v2) ∧ ∀ j, w.frozen? ⟨b, j, none⟩ = false
theorem O3.new (W : World) (v0 v1 v2 : Value) (t : TypeId) : O3 (W.alloc (.cells #[v0, v1, v2] t)) W.heap.size v0 v1 v2 := ⟨by refine ⟨?_, ?_, ?_⟩ <;> go_simp, fun j => World.frozen?_alloc_at _ _ _ _ rfl⟩
theorem O3.keep {W w1 : World} {b : Nat} {v0 v1 v2 : Value} (h : O3 W b v0 v1 v2) (hb : Below W.heap.size W w1) : O3 w1 b v0 v1 v2 :=
  ⟨⟨keep1 hb h.1.1, keep1 hb h.1.2.1, keep1 hb h.1.2.2⟩, fun j => (hb.frozen (p := ⟨b, j, none⟩) (show b < _ from block_lt_of_cell h.1.1)).trans (h.2 j)⟩
theorem O3.alloc {W : World} {b : Nat} {v0 v1 v2 : Value} (h : O3 W b v0 v1 v2) (o : Obj) : O3 (W.alloc o) b v0 v1 v2 := h.keep ((Below.refl _ _).alloc (Nat.le_refl _) _)
theorem O3.lt {W : World} {b : Nat} {v0 v1 v2 : Value} (h : O3 W b v0 v1 v2) : b < W.heap.size := block_lt_of_cell h.1.1
/-- A value written into a block. -/
abbrev put3 (w : World) (b : Nat) (u0 u1 u2 : Value) : World := ((w.setCell ⟨b, 0, none⟩ u0).setCell ⟨b, 1, none⟩ u1).setCell ⟨b, 2, none⟩ u2
theorem put3_frozen (w : World) (b : Nat) (u0 u1 u2 : Value) (a : Addr) : (put3 w b u0 u1 u2).frozen? a = w.frozen? a := by
  unfold put3
  rw [World.frozen?_setCell, World.frozen?_setCell, World.frozen?_setCell]
theorem put3_other (w : World) (b : Nat) (u0 u1 u2 : Value) (a o : Nat) (h : a ≠ b) : (put3 w b u0 u1 u2).cell? ⟨a, o, none⟩ = w.cell? ⟨a, o, none⟩ := by
  unfold put3
  rw [World.cell?_setCell_other _ _ _ _ (by simp [*]), World.cell?_setCell_other _ _ _ _ (by simp [*]), World.cell?_setCell_other _ _ _ _ (by simp [*])]
theorem O3.other {w : World} {a b : Nat} {v0 v1 v2 u0 u1 u2 : Value} (h : O3 w a v0 v1 v2) (hn : a ≠ b) : O3 (put3 w b u0 u1 u2) a v0 v1 v2 :=
  ⟨⟨(put3_other w b u0 u1 u2 a 0 hn).trans h.1.1, (put3_other w b u0 u1 u2 a 1 hn).trans h.1.2.1, (put3_other w b u0 u1 u2 a 2 hn).trans h.1.2.2⟩, fun j => (put3_frozen w b u0 u1 u2 _).trans (h.2 j)⟩
theorem put_c {w : World} {b i j : Nat} {v u : Value} (h : w.cell? ⟨b, j, none⟩ = some v) (hn : j ≠ i) : (w.setCell ⟨b, i, none⟩ u).cell? ⟨b, j, none⟩ = some v := (World.cell?_setCell_other _ _ _ _ (by simp [*])).trans h
theorem O3.put {w : World} {b : Nat} {v0 v1 v2 : Value} (h : O3 w b v0 v1 v2) (u0 u1 u2 : Value) : O3 (put3 w b u0 u1 u2) b u0 u1 u2 := by
  obtain ⟨⟨h0, h1, h2⟩, hf⟩ := h
  have s0 := World.cell?_setCell_same w _ u0 h0
  have s1 := World.cell?_setCell_same (w.setCell ⟨b, 0, none⟩ u0) _ u1 (put_c h1 (by decide))
  have s2 := World.cell?_setCell_same ((w.setCell ⟨b, 0, none⟩ u0).setCell ⟨b, 1, none⟩ u1) _ u2 (put_c (put_c h2 (by decide)) (by decide))
  exact ⟨⟨put_c (put_c s0 (by decide)) (by decide), put_c s1 (by decide), s2⟩, fun j => (put3_frozen w b u0 u1 u2 _).trans (hf j)⟩
theorem below_put3 {a w : World} {b : Nat} (h : Below a.heap.size a w) (hb : a.heap.size ≤ b) (u0 u1 u2 : Value) : Below a.heap.size a (put3 w b u0 u1 u2) :=
  ((h.setCell hb u0).setCell hb u1).setCell hb u2
/-- A value: its kind, its number, its text. -/
abbrev vV (k i : Int) (t : ByteArray) : Value := .agg #[.int .i64 k, .int .i64 i, .string t]
abbrev vO (k i : Int) (t : ByteArray) : Obj := .cells #[.int .i64 k, .int .i64 i, .string t] 30
abbrev no : ByteArray := { data := #[] }
abbrev V3 (w : World) (b : Nat) (k i : Int) (t : ByteArray) : Prop := O3 w b (.int .i64 k) (.int .i64 i) (.string t)
/-- What a call answers, whatever the world, and that it changes nothing that was there; CallT: where strconv's table lies. -/
abbrev CallIs (f : Nat) (args : Array Value) (v : Value) : Prop := Hid (∀ w, Calls Tryz.prog f args w fun e w' => e = .returned v ∧ Below w.heap.size w w')
abbrev CallT (f : Nat) (args : Array Value) (v : Value) : Prop := Hid (∀ w, Tab w → Calls Tryz.prog f args w fun e w' => e = .returned v ∧ Below w.heap.size w w')
theorem CallIs.t {f : Nat} {args : Array Value} {v : Value} (h : CallIs f args v) : CallT f args v := fun w _ => h w
/-- Is there the value? -/
def Good (k i : Int) (t : ByteArray) : Prop := (k = 0 ∧ i = 0 ∧ t = no) ∨ (k = 1 ∧ t = no) ∨ (k = 2 ∧ (i = 0 ∨ i = 1) ∧ t = no) ∨ (k = 3 ∧ i = 0 ∧ t.size ≤ 32767) ∨ (k = 4 ∧ (1 ≤ i ∧ i ≤ 6) ∧ t = no)
theorem no_size : no.size = 0 := rfl
theorem no_of {t : ByteArray} (h : t.size = 0) : t = no := by
  obtain ⟨⟨l⟩⟩ := t
  cases l with
  | nil => rfl
  | cons c r => simp [ByteArray.size] at h
theorem ne_no {t : ByteArray} (h : ¬ t = no) : 0 < t.size := by
  apply Classical.byContradiction
  intro hc
  exact h (no_of (by omega))
theorem full1 {t : ByteArray} (h : ¬ t = no) : ¬ t.toList = [] := toList_ne t (ne_no h)
theorem full2 {t : ByteArray} (h : ¬ t = no) : t.toList.isEmpty = false := isEmpty_ne t (ne_no h)
theorem full3 {t : ByteArray} (h : ¬ t = no) : (t.toList == []) = false := by rw [beq_eq_false_iff_ne]; exact full1 h
end Go.Proofs.YtgnmkhjilecdhaaGreatDoor
namespace Go.Proofs.YtgnmkhjilecdhaaGreatDoor
open Go.RowKit Go.Sort
set_option linter.unusedVariables false

set_option maxHeartbeats 1000000 in
theorem vmay_yes {k i : Int} {t : ByteArray} (h : Good k i t) : CallIs 7 #[vV k i t] (.bool true) := by
  intro w
  rcases h with ⟨rfl, rfl, rfl⟩ | ⟨rfl, rfl⟩ | ⟨rfl, rfl | rfl, rfl⟩ | ⟨rfl, rfl, ht⟩ | ⟨rfl, ⟨h1, h2⟩, rfl⟩
  · go_enter Tryz.func7, Tryz.ntmps7
    go_wp2
    go_ret
    exact ⟨rfl, by go_grown⟩
  · go_enter Tryz.func7, Tryz.ntmps7
    go_wp2
    go_ret
    exact ⟨rfl, by go_grown⟩
  · go_enter Tryz.func7, Tryz.ntmps7
    go_wp2
    go_ret
    exact ⟨rfl, by go_grown⟩
  · go_enter Tryz.func7, Tryz.ntmps7
    go_wp2
    go_ret
    exact ⟨rfl, by go_grown⟩
  · have hz : (t.size : Int) ≤ 32767 := by omega
    go_enter Tryz.func7, Tryz.ntmps7
    go_wp2
    go_ret
    exact ⟨rfl, by go_grown⟩
  · go_enter Tryz.func7, Tryz.ntmps7
    go_wp2
    go_ret
    exact ⟨rfl, by go_grown⟩
set_option maxHeartbeats 2000000 in
theorem vmay_no {k i : Int} {t : ByteArray} (h : ¬ Good k i t) : CallIs 7 #[vV k i t] (.bool false) := by
  intro w
  unfold Good at h
  by_cases k0 : k = 0
  · subst k0
    by_cases hi : i = 0
    · subst hi
      have ht : ¬ t = no := fun e => h (.inl ⟨rfl, rfl, e⟩)
      have f1 := full1 ht
      have f2 := full2 ht
      have f3 := full3 ht
      clear ht h
      go_enter Tryz.func7, Tryz.ntmps7
      go_wp2
      go_ret
      exact ⟨rfl, by go_grown⟩
    · have hi1 : (i == 0) = false := beq_eq_false_iff_ne.2 hi
      clear h
      go_enter Tryz.func7, Tryz.ntmps7
      go_wp2
      go_ret
      exact ⟨rfl, by go_grown⟩
  by_cases k1 : k = 1
  · subst k1
    have ht : ¬ t = no := fun e => h (.inr (.inl ⟨rfl, e⟩))
    have f1 := full1 ht
    have f2 := full2 ht
    have f3 := full3 ht
    clear ht h
    clear k0
    go_enter Tryz.func7, Tryz.ntmps7
    go_wp2
    go_ret
    exact ⟨rfl, by go_grown⟩
  by_cases k2 : k = 2
  · subst k2
    clear k0 k1
    by_cases hi : i = 0
    · subst hi
      have ht : ¬ t = no := fun e => h (.inr (.inr (.inl ⟨rfl, .inl rfl, e⟩)))
      have f1 := full1 ht
      have f2 := full2 ht
      have f3 := full3 ht
      clear ht h
      go_enter Tryz.func7, Tryz.ntmps7
      go_wp2
      go_ret
      exact ⟨rfl, by go_grown⟩
    by_cases hj : i = 1
    · subst hj
      have ht : ¬ t = no := fun e => h (.inr (.inr (.inl ⟨rfl, .inr rfl, e⟩)))
      have f1 := full1 ht
      have f2 := full2 ht
      have f3 := full3 ht
      clear ht h
      clear hi
      go_enter Tryz.func7, Tryz.ntmps7
      go_wp2
      go_ret
      exact ⟨rfl, by go_grown⟩
    · have hi1 : (i == 0) = false := beq_eq_false_iff_ne.2 hi
      have hj1 : (i == 1) = false := beq_eq_false_iff_ne.2 hj
      clear h
      go_enter Tryz.func7, Tryz.ntmps7
      go_wp2
      go_ret
      exact ⟨rfl, by go_grown⟩
  by_cases k3 : k = 3
  · subst k3
    clear k0 k1 k2
    by_cases hi : i = 0
    · subst hi
      have hz : ¬ (t.size : Int) ≤ 32767 := fun e => h (.inr (.inr (.inr (.inl ⟨rfl, rfl, by omega⟩))))
      clear h
      go_enter Tryz.func7, Tryz.ntmps7
      go_wp2
      go_ret
      exact ⟨rfl, by go_grown⟩
    · have hi1 : (i == 0) = false := beq_eq_false_iff_ne.2 hi
      clear h
      go_enter Tryz.func7, Tryz.ntmps7
      go_wp2
      go_ret
      exact ⟨rfl, by go_grown⟩
  by_cases k4 : k = 4
  · subst k4
    clear k0 k1 k2 k3
    by_cases hi : 1 ≤ i
    · by_cases hj : i ≤ 6
      · have ht : ¬ t = no := fun e => h (.inr (.inr (.inr (.inr ⟨rfl, ⟨hi, hj⟩, e⟩))))
        have f1 := full1 ht
        have f2 := full2 ht
        have f3 := full3 ht
        clear ht h
        go_enter Tryz.func7, Tryz.ntmps7
        go_wp2
        go_ret
        exact ⟨rfl, by go_grown⟩
      · clear h
        go_enter Tryz.func7, Tryz.ntmps7
        go_wp2
        go_ret
        exact ⟨rfl, by go_grown⟩
    · clear h
      go_enter Tryz.func7, Tryz.ntmps7
      go_wp2
      go_ret
      exact ⟨rfl, by go_grown⟩
  have q0 : (k == 0) = false := beq_eq_false_iff_ne.2 k0
  have q1 : (k == 1) = false := beq_eq_false_iff_ne.2 k1
  have q2 : (k == 2) = false := beq_eq_false_iff_ne.2 k2
  have q3 : (k == 3) = false := beq_eq_false_iff_ne.2 k3
  have q4 : (k == 4) = false := beq_eq_false_iff_ne.2 k4
  clear h
  go_enter Tryz.func7, Tryz.ntmps7
  go_wp2
  go_ret
  exact ⟨rfl, by go_grown⟩
end Go.Proofs.YtgnmkhjilecdhaaGreatDoor
namespace Go.Proofs.YtgnmkhjilecdhaaGreatDoor
open Go.RowKit Go.Sort
set_option linter.unusedVariables false

set_option maxHeartbeats 400000 in
theorem fault_is (e : Int) : CallIs 119 #[.int .i64 e] (vV 4 e no) := by
  intro w
  go_enter Tryz.func119, Tryz.ntmps119
  go_wp2_with fail
  go_returns
  exact ⟨rfl, by go_grown⟩
set_option maxHeartbeats 1000000 in
theorem sound_good {k i : Int} {t : ByteArray} (h : Good k i t) : CallIs 95 #[vV k i t] (vV k i t) := by
  intro w
  have HM := vmay_yes h
  clear h
  go_enter Tryz.func95, Tryz.ntmps95
  try simp only [List.append]
  go_wp2_with fail
  refine (HM.out _).mono ?_
  rintro e w1 ⟨rfl, hb1⟩
  have B1 := hide (next (step (step (Below.refl w.heap.size w) _) _) hb1)
  have cv := hide (((O3.new w (.int .i64 k) (.int .i64 i) (.string t) 30).alloc _).keep hb1)
  have cr := hide ((O3.new (w.alloc (vO k i t)) (.int .i64 0) (.int .i64 0) (.string no) 30).keep hb1)
  simp only [World.size_alloc] at cr
  have cvw100 := cv.out.1.1
  have cvw101 := cv.out.1.2.1
  have cvw102 := cv.out.1.2.2
  have crw100 := cr.out.1.1
  have crw101 := cr.out.1.2.1
  have crw102 := cr.out.1.2.2
  have crw10f := cr.out.2
  have B1p := hide (below_put3 (b := w.heap.size + 1) (B1.out) (by omega) (.int .i64 k) (.int .i64 i) (.string t))
  replace cv := hide (O3.other (b := w.heap.size + 1) (u0 := .int .i64 k) (u1 := .int .i64 i) (u2 := .string t) cv.out (by omega))
  replace cr := hide (cr.out.put (.int .i64 k) (.int .i64 i) (.string t))
  obtain ⟨w1p, hw1p⟩ : ∃ w1p, put3 w1 (w.heap.size + 1) (.int .i64 k) (.int .i64 i) (.string t) = w1p := ⟨_, rfl⟩
  rw [hw1p] at B1p cv cr
  unfold put3 at hw1p
  have crw1p00 := cr.out.1.1
  have crw1p01 := cr.out.1.2.1
  have crw1p02 := cr.out.1.2.2
  go_wp2_with fail
  refine bodyPost_ret (by simp [results, Tryz.results95, go_sem, crw1p00, crw1p01, crw1p02]; try rfl) rfl ?_
  exact ⟨rfl, B1p.out⟩
set_option maxHeartbeats 1000000 in
theorem sound_bad {k i : Int} {t : ByteArray} (h : ¬ Good k i t) : CallIs 95 #[vV k i t] (vV 4 4 no) := by
  intro w
  have HM := vmay_no h
  have HE := fault_is 4
  clear h
  go_enter Tryz.func95, Tryz.ntmps95
  try simp only [List.append]
  go_wp2_with fail
  refine (HM.out _).mono ?_
  rintro e w1 ⟨rfl, hb1⟩
  have B1 := hide (next (step (step (Below.refl w.heap.size w) _) _) hb1)
  have cv := hide (((O3.new w (.int .i64 k) (.int .i64 i) (.string t) 30).alloc _).keep hb1)
  have cr := hide ((O3.new (w.alloc (vO k i t)) (.int .i64 0) (.int .i64 0) (.string no) 30).keep hb1)
  simp only [World.size_alloc] at cr
  go_wp2_with fail
  refine (HE.out _).mono ?_
  rintro e w2 ⟨rfl, hb2⟩
  have B2 := hide (next (B1.out) hb2)
  replace cv := hide (cv.out.keep hb2)
  replace cr := hide (cr.out.keep hb2)
  have crw200 := cr.out.1.1
  have crw201 := cr.out.1.2.1
  have crw202 := cr.out.1.2.2
  have crw20f := cr.out.2
  have B2p := hide (below_put3 (b := w.heap.size + 1) (B2.out) (by omega) (.int .i64 4) (.int .i64 4) (.string no))
  replace cv := hide (O3.other (b := w.heap.size + 1) (u0 := .int .i64 4) (u1 := .int .i64 4) (u2 := .string no) cv.out (by omega))
  replace cr := hide (cr.out.put (.int .i64 4) (.int .i64 4) (.string no))
  obtain ⟨w2p, hw2p⟩ : ∃ w2p, put3 w2 (w.heap.size + 1) (.int .i64 4) (.int .i64 4) (.string no) = w2p := ⟨_, rfl⟩
  rw [hw2p] at B2p cv cr
  unfold put3 at hw2p
  have crw2p00 := cr.out.1.1
  have crw2p01 := cr.out.1.2.1
  have crw2p02 := cr.out.1.2.2
  go_wp2_with fail
  refine bodyPost_ret (by simp [results, Tryz.results95, go_sem, crw2p00, crw2p01, crw2p02]; try rfl) rfl ?_
  exact ⟨rfl, B2p.out⟩
end Go.Proofs.YtgnmkhjilecdhaaGreatDoor
