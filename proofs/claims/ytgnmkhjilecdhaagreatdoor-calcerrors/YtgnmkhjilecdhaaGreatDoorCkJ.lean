/- CalcOrder: small facts. quadrillelaw14.is: what a function makes of its arguments; whole. What CalcErrors' walk needs of lists: where the first error stands; a copy of a list of values in memory of one's own, and one of its values written over. No function of package calc in sight. -/
import Derived.Test.YtgnmkhjilecdhaaGreatDoorB14J
import Derived.Test.YtgnmkhjilecdhaaGreatDoorC14J
import Derived.Test.YtgnmkhjilecdhaaGreatDoorGcd
import Derived.Test.YtgnmkhjilecdhaaGreatDoorF14J
namespace Go.Proofs.YtgnmkhjilecdhaaGreatDoor
open Go.RowKit Go.Sort
set_option linter.unusedVariables false

theorem va_field (k i : Int) (t : ByteArray) (w : World) : (Instr.field 30 (vV k i t) 1).run Tryz.prog w = .ok (.int .i64 i) w := by kernel_rfl
theorem va_eq (k i : Int) (t : ByteArray) (w : World) : (binOp .eql 30 (vV k i t) (vV k i t)).run Tryz.prog w = .ok (.bool true) w := by go_simp
/-- The six answers. -/
abbrev six (R : Int → Va) : List Va := [R 7, R 8, R 9, R 10, R 11, R 12]
theorem six_take (R : Int → Va) (j : Nat) (h : j < 6) : (six R).take (j + 1) = (six R).take j ++ [R (7 + (j : Int))] := by
  match j, h with
  | 0, _ => rfl
  | 1, _ => rfl
  | 2, _ => rfl
  | 3, _ => rfl
  | 4, _ => rfl
  | 5, _ => rfl
theorem range_va (w : World) (k i : Int) (t : ByteArray) : (w.alloc (.cells #[.int .i64 k, .int .i64 i, .string t] 30)).rangeAt w.heap.size 0 (vaC ⟨k, i, t⟩) := World.rangeAt_of_block (heap_alloc_new w _) 0 3
theorem meas7 {j : Nat} (h : j < 6) : 13 - (intOf (.int .i64 (7 + (j : Int) + 1))).toNat < 13 - (intOf (.int .i64 (7 + (j : Int)))).toNat := by
  have h1 : (intOf (.int .i64 (7 + (j : Int) + 1))).toNat = 8 + j := by show (7 + (j : Int) + 1).toNat = 8 + j; omega
  have h2 : (intOf (.int .i64 (7 + (j : Int)))).toNat = 7 + j := by show (7 + (j : Int)).toNat = 7 + j; omega
  rw [h1, h2]; omega
theorem meas6 {j : Nat} (h : j < 6) : 6 - (intOf (.int .i64 ((j : Int) + 1))).toNat < 6 - (intOf (.int .i64 (j : Int))).toNat := by
  have h1 : (intOf (.int .i64 ((j : Int) + 1))).toNat = j + 1 := rfl
  have h2 : (intOf (.int .i64 (j : Int))).toNat = j := rfl
  rw [h1, h2]; omega
theorem VaAt.other {w : World} {b B o : Nat} {x : Va} {u0 u1 u2 : Value} (h : VaAt w b o x) (hn : b ≠ B) : VaAt (((w.setCell ⟨B, 0, none⟩ u0).setCell ⟨B, 1, none⟩ u1).setCell ⟨B, 2, none⟩ u2) b o x :=
  ⟨(put3_other w B u0 u1 u2 b _ hn).trans h.1, (put3_other w B u0 u1 u2 b _ hn).trans h.2.1, (put3_other w B u0 u1 u2 b _ hn).trans h.2.2⟩
end Go.Proofs.YtgnmkhjilecdhaaGreatDoor
namespace Go.Proofs.YtgnmkhjilecdhaaGreatDoor
open Go.RowKit Go.Sort
set_option linter.unusedVariables false

/-- A call that is answered. -/
def FunIs (f : Int) (xs : List Va) (out : Va) : Prop := ∀ (w : World) (a : Option Addr) (cap : Nat), Tb w → ValsAt w a xs → Calls Tryz.prog 6 #[.int .i64 f, .slice a xs.length cap] w fun e w' => e = .returned (.tuple #[out.v, .int .i64 0]) ∧ Below w.heap.size w w'
/-- Two numbers. -/
theorem fun_nn (k : Nat) (hk : k < 35) (nm : ByteArray) (h : T9.tab[k]? = some (nm, 2, 2)) (fn : Nat) (hr : rtab[k]? = some (⟨#[110, 110]⟩, fn)) (hf : fn ≠ 0) (hent : ∀ args w, (callFunc fn args).run Tryz.prog w = .ok (.enter fn args) w) (a b : Int) (out : Va) (hd : DoIs fn [⟨1, a, no⟩, ⟨1, b, no⟩] out) : FunIs ((k : Int) + 1) [⟨1, a, no⟩, ⟨1, b, no⟩] out := by
  intro w ad cap HT hv
  have := callS k hk nm 2 2 h _ fn hr hf hent [⟨1, a, no⟩, ⟨1, b, no⟩] [⟨1, a, no⟩, ⟨1, b, no⟩] out ad cap w HT hv (by show 2 ≤ maxLen; unfold maxLen; decide) (by show ¬ ((2 : Nat) : Int) < 2; decide) (by show ¬ 2 < ((2 : Nat) : Int); decide) (by intro x hx; rcases List.mem_cons.1 hx with rfl | hx; exact good_int _; rcases List.mem_cons.1 hx with rfl | hx; exact good_int _; cases hx)
    (fun _ => look2 110 110 _ _ _ _ (as_int _) (as_int _)) (by show 2 ≤ maxLen; unfold maxLen; decide) (fun _ _ => hd)
  rw [scV_out rfl rfl] at this
  exact this
theorem row3 : rtab[2]? = some (⟨#[110, 110]⟩, 35) := by kernel_rfl
theorem tab3 : T9.tab[2]? = some (⟨#[77, 79, 68]⟩, 2, 2) := by kernel_rfl
theorem row4 : rtab[3]? = some (⟨#[110, 110]⟩, 37) := by kernel_rfl
theorem tab4 : T9.tab[3]? = some (⟨#[81, 85, 79, 84, 73, 69, 78, 84]⟩, 2, 2) := by kernel_rfl
theorem row6 : rtab[5]? = some (⟨#[110, 110]⟩, 40) := by kernel_rfl
theorem tab6 : T9.tab[5]? = some (⟨#[71, 67, 68]⟩, 2, 2) := by kernel_rfl
theorem row7 : rtab[6]? = some (⟨#[110, 110]⟩, 42) := by kernel_rfl
theorem tab7 : T9.tab[6]? = some (⟨#[76, 67, 77]⟩, 2, 2) := by kernel_rfl
theorem f_quo (a b r e : Int) (out : Va) (HO : CallIs 23 #[.int .i64 a, .int .i64 b] (iiV r e)) (HR : CallIs 22 #[.int .i64 r, .int .i64 e] out.v) : FunIs 4 [⟨1, a, no⟩, ⟨1, b, no⟩] out := fun_nn 3 (by decide) _ tab4 _ row4 (by decide) ent4 a b out (do2 fun b' o cap w hT c0 c1 => do_quo ⟨1, a, no⟩ ⟨1, b, no⟩ r e out.k out.i out.t HO HR b' o cap w hT c0 c1)
theorem f_mod (a b r e : Int) (out : Va) (HO : CallIs 36 #[.int .i64 a, .int .i64 b] (iiV r e)) (HR : CallIs 22 #[.int .i64 r, .int .i64 e] out.v) : FunIs 3 [⟨1, a, no⟩, ⟨1, b, no⟩] out := fun_nn 2 (by decide) _ tab3 _ row3 (by decide) ent3 a b out (do2 fun b' o cap w hT c0 c1 => do_mod ⟨1, a, no⟩ ⟨1, b, no⟩ r e out.k out.i out.t HO HR b' o cap w hT c0 c1)
theorem f_gcd (a b r e : Int) (out : Va) (HO : CallIs 41 #[.int .i64 a, .int .i64 b] (iiV r e)) (HR : CallIs 22 #[.int .i64 r, .int .i64 e] out.v) : FunIs 6 [⟨1, a, no⟩, ⟨1, b, no⟩] out := fun_nn 5 (by decide) _ tab6 _ row6 (by decide) ent6 a b out (do2 fun b' o cap w hT c0 c1 => do_gcd ⟨1, a, no⟩ ⟨1, b, no⟩ r e out.k out.i out.t HO HR b' o cap w hT c0 c1)
theorem f_lcm (a b r e : Int) (out : Va) (HO : CallIs 43 #[.int .i64 a, .int .i64 b] (iiV r e)) (HR : CallIs 22 #[.int .i64 r, .int .i64 e] out.v) : FunIs 7 [⟨1, a, no⟩, ⟨1, b, no⟩] out := fun_nn 6 (by decide) _ tab7 _ row7 (by decide) ent7 a b out (do2 fun b' o cap w hT c0 c1 => do_lcm ⟨1, a, no⟩ ⟨1, b, no⟩ r e out.k out.i out.t HO HR b' o cap w hT c0 c1)
theorem drewN_is {f : FuncId} {args : Array Value} {v : Value} (h : ∀ w, Calls Tryz.prog f args w fun e w' => e = .returned v ∧ ∃ n, w' = w.drewN n) : CallIs f args v := fun w => (h w).mono fun e w' ⟨h1, n, h2⟩ => ⟨h1, by rw [h2]; exact below_drewN (Below.refl _ _) n⟩
theorem va_neq (k i : Int) (t : ByteArray) (w : World) : (binOp .neq 30 (vV k i t) (vV k i t)).run Tryz.prog w = .ok (.bool false) w := by go_simp
theorem va_eq1 (k i : Int) (t : ByteArray) (w : World) : (binOp .eql 30 (vV k i t) (vV k i t)).run Tryz.prog w = .ok (.bool true) w := by go_simp
end Go.Proofs.YtgnmkhjilecdhaaGreatDoor
namespace Go.Proofs.YtgnmkhjilecdhaaGreatDoor
open Go.RowKit Go.Sort
set_option linter.unusedVariables false

/-- Where the first error among the first of a list stands; -1: there is none. -/
def fiV (xs : List Va) : Nat → Int
  | 0 => -1
  | j + 1 => if fiV xs j < 0 ∧ (∃ x, xs[j]? = some x ∧ x.k = 4) then (j : Int) else fiV xs j
theorem fe_snoc : ∀ (l : List Va) (x : Va), fe (l ++ [x]) = match fe l with | some e => some e | none => if x.k = 4 then some x else none
  | [], x => by simp [fe]
  | y :: l, x => by
    rw [List.cons_append, fe, fe]
    split
    · rfl
    · exact fe_snoc l x
theorem fiV_is (xs : List Va) : ∀ j, j ≤ xs.length → (fiV xs j = -1 ∧ fe (xs.take j) = none) ∨ ∃ (n : Nat) (e : Va), n < j ∧ fiV xs j = (n : Int) ∧ xs[n]? = some e ∧ e.k = 4 ∧ fe (xs.take j) = some e
  | 0, _ => .inl ⟨rfl, by simp [fe]⟩
  | j + 1, hj => by
    have hx : xs[j]? = some (xs[j]'(by omega)) := List.getElem?_eq_getElem _
    have ht : xs.take (j + 1) = xs.take j ++ [xs[j]'(by omega)] := by rw [List.take_add_one, hx]; rfl
    rw [ht, fe_snoc]
    rcases fiV_is xs j (by omega) with ⟨h1, h2⟩ | ⟨n, e, h0, h1, h2, h3, h4⟩
    · by_cases h4 : (xs[j]'(by omega)).k = 4
      · refine .inr ⟨j, _, by omega, ?_, hx, h4, by rw [h2]; simp [h4]⟩
        rw [fiV, if_pos ⟨by rw [h1]; decide, _, hx, h4⟩]
      · refine .inl ⟨?_, by rw [h2]; simp [h4]⟩
        rw [fiV, if_neg (by rintro ⟨_, x, hq, h⟩; rw [hx] at hq; cases hq; exact h4 h), h1]
    · refine .inr ⟨n, e, by omega, ?_, h2, h3, by rw [h4]⟩
      rw [fiV, if_neg (by rintro ⟨h, _⟩; rw [h1] at h; omega), h1]
theorem fiV_no {xs : List Va} (h : fe xs = none) : fiV xs xs.length = -1 := by
  rcases fiV_is xs xs.length (Nat.le_refl _) with ⟨h1, _⟩ | ⟨n, e, _, _, _, _, h4⟩
  · exact h1
  · rw [List.take_length, h] at h4; cases h4
theorem fiV_yes {xs : List Va} {e : Va} (h : fe xs = some e) : ∃ n : Nat, n < xs.length ∧ fiV xs xs.length = (n : Int) ∧ xs[n]? = some e := by
  rcases fiV_is xs xs.length (Nat.le_refl _) with ⟨_, h2⟩ | ⟨n, e', h0, h1, h2, _, h4⟩
  · rw [List.take_length, h] at h2; cases h2
  · rw [List.take_length, h] at h4; cases h4
    exact ⟨n, h0, h1, h2⟩
theorem fiV_step (xs : List Va) (j : Nat) (x : Va) (hx : xs[j]? = some x) : fiV xs (j + 1) = if fiV xs j < 0 ∧ x.k = 4 then (j : Int) else fiV xs j := by
  rw [fiV]
  by_cases h : fiV xs j < 0 ∧ x.k = 4
  · rw [if_pos h, if_pos ⟨h.1, x, hx, h.2⟩]
  · rw [if_neg h, if_neg (by rintro ⟨h1, y, hy, h2⟩; rw [hx] at hy; cases hy; exact h ⟨h1, h2⟩)]
/-- A row of values that may be written. -/
def RowX (w : World) (g : Nat) (L : List Va) : Prop := ∃ cs : Array Value, w.heap[g]? = some (.cells cs 30 (0, 0)) ∧ L.length * 3 ≤ cs.size ∧ ∀ (j : Nat) (y : Va), L[j]? = some y → cs[j * 3]? = some (.int .i64 y.k) ∧ cs[j * 3 + 1]? = some (.int .i64 y.i) ∧ cs[j * 3 + 2]? = some (.string y.t)
theorem RowX.keep {w w' : World} {g : Nat} {L : List Va} (h : RowX w g L) (hb : Below w.heap.size w w') : RowX w' g L := by
  obtain ⟨cs, h1, h2, h3⟩ := h
  refine ⟨cs, ?_, h2, h3⟩
  rw [hb.block g (by have := (Array.getElem?_eq_some_iff.1 h1).1; exact this)]
  exact h1
theorem RowX.put {w : World} {g : Nat} {L : List Va} (h : RowX w g L) (k : Nat) (y : Va) :
    RowX (((w.setCell ⟨g, k * 3, none⟩ (.int .i64 y.k)).setCell ⟨g, k * 3 + 1, none⟩ (.int .i64 y.i)).setCell ⟨g, k * 3 + 2, none⟩ (.string y.t)) g (L.set k y) := by
  obtain ⟨cs, h1, h2, h3⟩ := h
  refine ⟨_, heap_same _ _ _ _ _ _ (heap_same _ _ _ _ _ _ (heap_same _ _ _ _ _ _ h1)), by simpa using h2, fun j z hz => ?_⟩
  simp only [Array.getElem?_setIfInBounds]
  have hj : j < L.length := by have := (List.getElem?_eq_some_iff.1 hz).1; simpa using this
  by_cases e : j = k
  · subst e
    rw [List.getElem?_set_self hj] at hz
    obtain rfl : y = z := Option.some.inj hz
    refine ⟨?_, ?_, ?_⟩
    · rw [if_neg (by omega), if_neg (by omega), if_pos rfl, if_pos (by omega)]
    · rw [if_neg (by omega), if_pos rfl, if_pos (by simp; omega)]
    · rw [if_pos rfl, if_pos (by simp; omega)]
  · rw [List.getElem?_set_ne (by omega)] at hz
    obtain ⟨a, b, c⟩ := h3 j z hz
    refine ⟨?_, ?_, ?_⟩
    · rw [if_neg (by omega), if_neg (by omega), if_neg (by omega)]; exact a
    · rw [if_neg (by omega), if_neg (by omega), if_neg (by omega)]; exact b
    · rw [if_neg (by omega), if_neg (by omega), if_neg (by omega)]; exact c
theorem RowX.vals {w : World} {g : Nat} {L : List Va} (h : RowX w g L) : ValsAt w (some ⟨g, 0, none⟩) L := by
  obtain ⟨cs, h1, h2, h3⟩ := h
  refine .inr ⟨g, 0, rfl, fun j y hy => ?_⟩
  obtain ⟨a, b, c⟩ := h3 j y hy
  rw [Nat.zero_add]
  exact ⟨by rw [cell_of_row w g _ cs _ (0, 0) h1, a], by rw [cell_of_row w g _ cs _ (0, 0) h1, b], by rw [cell_of_row w g _ cs _ (0, 0) h1, c]⟩
theorem RowX.at' {w : World} {g : Nat} {L : List Va} (h : RowX w g L) {o : Nat} (ho : o < L.length * 3) : ∃ v, w.cell? ⟨g, o, none⟩ = some v := by
  obtain ⟨cs, h1, h2, h3⟩ := h
  rw [cell_of_row w g o cs _ (0, 0) h1]
  exact ⟨cs[o]'(by omega), by simp [Array.getElem?_eq_getElem (show o < cs.size by omega)]⟩
theorem RowX.fr {w : World} {g : Nat} {L : List Va} (h : RowX w g L) (o : Nat) : w.frozen? ⟨g, o, none⟩ = false := by
  obtain ⟨cs, h1, h2, h3⟩ := h
  exact frozen_of_row w g o cs _ h1
theorem RowX.lt {w : World} {g : Nat} {L : List Va} (h : RowX w g L) : g < w.heap.size := by
  obtain ⟨cs, h1, _⟩ := h
  exact (Array.getElem?_eq_some_iff.1 h1).1
/-- A list that is owned and not empty. -/
theorem RowW.row {w : World} {B : Nat} {v : Value} {L : List Va} (h : RowW w B v L) (hL : 0 < L.length) : ∃ g cap, v = .slice (some ⟨g, 0, none⟩) L.length cap ∧ B ≤ g ∧ RowX w g L := by
  rcases h.2 with ⟨hv, h2⟩ | ⟨g, cap, cur, hv, hg, hr, hc, _, hz, ht⟩
  · omega
  · refine ⟨g, cap, hv, hg, cur, hr, by omega, fun j x hx => ?_⟩
    obtain ⟨c0, c1, c2⟩ := flV_at L j x hx
    have hcell : ∀ (o : Nat) (u : Value), (flV L)[o]? = some u → cur[o]? = some u := fun o u hu => by
      rw [← Array.getElem?_toList]
      rw [← ht, List.getElem?_take] at hu
      split at hu
      · exact hu
      · cases hu
    exact ⟨hcell _ _ c0, hcell _ _ c1, hcell _ _ c2⟩
theorem flV_cells {w : World} {b o : Nat} {xs : List Va} (h : ∀ (j : Nat) (x : Va), xs[j]? = some x → VaAt w b (o + j * 3) x) : ∀ (j : Nat) (u : Value), (flV xs)[j]? = some u → w.cell? ⟨b, o + j, none⟩ = some u := by
  intro j u hu
  have hj : j < xs.length * 3 := by have := (List.getElem?_eq_some_iff.1 hu).1; rw [flV_len] at this; exact this
  have hx : xs[j / 3]? = some (xs[j / 3]'(by omega)) := List.getElem?_eq_getElem _
  obtain ⟨c0, c1, c2⟩ := flV_at xs _ _ hx
  obtain ⟨d0, d1, d2⟩ := h _ _ hx
  have h3 : j % 3 = 0 ∨ j % 3 = 1 ∨ j % 3 = 2 := by omega
  rcases h3 with h3 | h3 | h3
  · rw [show j / 3 * 3 = j by omega] at c0 d0; rw [c0] at hu; cases hu; exact d0
  · rw [show j / 3 * 3 + 1 = j by omega] at c1; rw [show o + j / 3 * 3 + 1 = o + j by omega] at d1; rw [c1] at hu; cases hu; exact d1
  · rw [show j / 3 * 3 + 2 = j by omega] at c2; rw [show o + j / 3 * 3 + 2 = o + j by omega] at d2; rw [c2] at hu; cases hu; exact d2
theorem flV_one (L : List Va) : ∀ u ∈ flV L, u.oneCell' = true := by
  intro u hu
  unfold flV at hu
  obtain ⟨x, _, hx⟩ := List.mem_flatMap.1 hu
  simp at hx
  rcases hx with rfl | rfl | rfl <;> rfl
section
variable {w : World} {ops : Array Oper} {rest : List Oper} {o : Oper} {a : Act} {Q : Exit → Act → World → Prop} {B X off m c : Nat}
/-- A copy of a list, in memory of one's own. -/
theorem run_copyV (ty : TypeId) (xs : List Va) (hm : xs.length = m) (hc : ∀ (j : Nat) (x : Va), xs[j]? = some x → VaAt w X (off + j * 3) x) (hl : xs.length < 1000000) (hB : B ≤ w.heap.size) :
    ∃ v' w', (Builtin.append_ #[22, 22] ty #[.slice none 0 0, .slice (some ⟨X, off, none⟩) m c]).run Tryz.prog w = .ok v' w' ∧ RowW w' B v' xs ∧ w.grownBy w' none := by
  obtain ⟨i0, hi, hz0, hz1, hz2⟩ := info_parts info_va
  obtain ⟨v', w', h1, h2, h3, _, h4⟩ := run_append_own_at (P := Tryz.prog) w B 22 ty 30 i0 (.agg #[.int .i64 0, .int .i64 0, .string no]) 3 32 Tryz.underlying22 hi hz0 hz1 hz2 rfl (by decide) (.slice none 0 0) 0 [] (RowW.nil w B)
    ⟨X, off, none⟩ m c (flV xs) (by rw [flV_len, hm]) (fun j u hj => by rw [Addr.add_mid]; exact flV_cells hc j u hj) (flV_one xs) (by unfold maxLen; omega) (by omega) hB
  exact ⟨v', w', h1, by unfold RowW; rw [hm]; simpa using h2, h3⟩
theorem wpList_copyV (hg : o.guard = none) (y : Operand) (hop : o.op = Op.call { callee := Callee.builtin Builtin.append, args := #[.const (.slice none 0 0), y], argTypes := #[22, 22] })
    (hx : a.eval y = .slice (some ⟨X, off, none⟩) m c) (xs : List Va) (hm : xs.length = m) (hc : ∀ (j : Nat) (x : Va), xs[j]? = some x → VaAt w X (off + j * 3) x) (hl : xs.length < 1000000) (hB : B ≤ w.heap.size)
    (hK : ∀ v' w', RowW w' B v' xs → w.grownBy w' none → wpList Tryz.prog ops Q rest (a.put o.dst v') w') : wpList Tryz.prog ops Q (o :: rest) a w := by
  refine wpList_plain hg fun K' hK' => ?_
  obtain ⟨v', w', hrun, r1, r2⟩ := run_copyV o.type xs hm hc hl hB (c := c)
  unfold Oper.wp
  have hs : a.eval (.const (.slice none 0 0)) = .slice none 0 0 := rfl
  simp [execOp, hop, resolve, invoke, builtin, hs, hx, hrun, Result.andThen]
  exact hK' _ _ (hK v' w' r1 r2)
end
theorem below_grown {w w' : World} (hg : w.grownBy w' none) : Below w.heap.size w w' :=
  ⟨hg.os, hg.tape, hg.output, hg.size, fun k hk => hg.block k hk (fun e => by cases e)⟩
end Go.Proofs.YtgnmkhjilecdhaaGreatDoor
