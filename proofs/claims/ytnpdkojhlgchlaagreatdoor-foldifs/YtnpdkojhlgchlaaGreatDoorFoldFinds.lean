/- FoldFinds: MATCH ends at the first place whose number is the one that is looked for; COUNTIF tells how many there are; VLOOKUP wants the place beside the first. Proved of the Go text. -/
import Derived.Test.YtnpdkojhlgchlaaGreatDoorFndM15
namespace Go.Proofs.YtnpdkojhlgchlaaGreatDoor
open Go.RowKit Go.Sort
open T9 (Blk Chg)
set_option linter.unusedVariables false
set_option linter.unusedSimpArgs false

theorem flP_at : ∀ (L : List (Int × Int)) (j : Nat) (x : Int × Int), L[j]? = some x → (flP L)[j * 2]? = some (.int .i64 x.1) ∧ (flP L)[j * 2 + 1]? = some (.int .i64 x.2)
  | [], j, x, h => by simp at h
  | y :: L, 0, x, h => by obtain rfl : y = x := by simpa using h
                          exact ⟨rfl, rfl⟩
  | y :: L, j + 1, x, h => by
    have ih := flP_at L j x (by simpa using h)
    have e : flP (y :: L) = spL y ++ flP L := by simp [flP]
    rw [e, show (j + 1) * 2 = 2 + j * 2 by omega]
    refine ⟨?_, ?_⟩
    · rw [List.getElem?_append_right (by simp)]; simpa using ih.1
    · rw [List.getElem?_append_right (by simp; omega)]; simp only [List.length_cons, List.length_nil]; rw [show 2 + j * 2 + 1 - (0 + 1 + 1) = j * 2 + 1 by omega]; exact ih.2
theorem RowP.at {w : World} {B : Nat} {a : Option Addr} {n cap : Nat} {L : List (Int × Int)} (h : RowP w B (.slice a n cap) L) (hL : 0 < L.length) : ∃ g, a = some ⟨g, 0, none⟩ ∧ ∀ (j : Nat) (x : Int × Int), L[j]? = some x → w.cell? ⟨g, j * 2, none⟩ = some (.int .i64 x.1) ∧ w.cell? ⟨g, j * 2 + 1, none⟩ = some (.int .i64 x.2) := by
  rcases h.2 with ⟨hv, h2⟩ | ⟨g, cap', cur, hv, _, hr, _, _, _, ht⟩
  · omega
  · simp only [Value.slice.injEq] at hv
    obtain ⟨rfl, _, _⟩ := hv
    refine ⟨g, rfl, fun j x hx => ?_⟩
    obtain ⟨c0, c1⟩ := flP_at L j x hx
    have hcell : ∀ (o : Nat) (u : Value), (flP L)[o]? = some u → w.cell? ⟨g, o, none⟩ = some u := fun o u hu => by
      rw [cell_of_row w g o cur _ (0, 0) hr, ← Array.getElem?_toList]
      rw [← ht, List.getElem?_take] at hu
      split at hu
      · exact hu
      · cases hu
    exact ⟨hcell _ _ c0, hcell _ _ c1⟩
theorem RowP.low {w : World} {B B' : Nat} {v : Value} {L : List (Int × Int)} (h : RowP w B v L) (hb : B' ≤ B) : RowP w B' v L := by
  refine ⟨h.1, ?_⟩
  rcases h.2 with h2 | ⟨g, cap, cur, rfl, h1, h2⟩
  · exact .inl h2
  · exact .inr ⟨g, cap, cur, rfl, Nat.le_trans hb h1, h2⟩
theorem va_neq1 (i : Int) (w : World) : (binOp .neq 31 (vV 1 i no) (vV 1 i no)).run Tryz.prog w = .ok (.bool false) w := by go_simp
theorem va_eqA (k i : Int) (w : World) : (binOp .eql 31 (vV k i no) (vV k i no)).run Tryz.prog w = .ok (.bool true) w := by go_simp
theorem sp_eqA (p q : Int) (w : World) : (binOp .eql 47 (.agg #[.int .i64 p, .int .i64 q]) (.agg #[.int .i64 p, .int .i64 q])).run Tryz.prog w = .ok (.bool true) w := by go_simp
theorem fI_at (x : Int) : ∀ (l : List Int) (i : Nat) (h : i < l.length), l[i] = x → fI x l ≤ i
  | [], i, h, _ => by simp at h
  | b :: r, 0, h, e => by rw [fI, if_pos (by simpa using e)]; exact Nat.le_refl _
  | b :: r, i + 1, h, e => by
    rw [fI]
    split
    · exact Nat.zero_le _
    · have := fI_at x r i (by simpa using h) (by simpa using e); omega
theorem fI_ne (x : Int) : ∀ (l : List Int) (i : Nat) (h : i < l.length), l[i] ≠ x → fI x l ≠ i
  | [], i, h, _ => by simp at h
  | b :: r, 0, h, e => by rw [fI, if_neg (by simpa using e)]; omega
  | b :: r, i + 1, h, e => by
    rw [fI]
    split
    · omega
    · have := fI_ne x r i (by simpa using h) (by simpa using e); omega
/-- What the law has found up to a place. -/
def fst (x : Int) (ns : List Int) (j : Nat) : Int := if fI x ns < j then (fI x ns : Int) else -1
theorem fst_new (x : Int) (ns : List Int) (j : Nat) (h : j < ns.length) (e : ns[j] = x) (hF : fst x ns j < 0) : fst x ns (j + 1) = j := by
  have := fI_at x ns j h e
  unfold fst at *
  split at hF
  · omega
  · rw [if_pos (by omega)]; omega
theorem fst_old (x : Int) (ns : List Int) (j : Nat) (hF : ¬ fst x ns j < 0) : fst x ns (j + 1) = fst x ns j := by
  unfold fst at *
  split at hF
  · rw [if_pos (by omega), if_pos (by omega)]
  · omega
theorem fst_no (x : Int) (ns : List Int) (j : Nat) (h : j < ns.length) (e : ns[j] ≠ x) : fst x ns (j + 1) = fst x ns j := by
  have := fI_ne x ns j h e
  unfold fst
  split <;> split <;> omega
theorem fst_bd (x : Int) (ns : List Int) (j : Nat) : -1 ≤ fst x ns j ∧ fst x ns j ≤ ns.length := by
  have := fI_le x ns
  unfold fst
  split <;> omega
theorem cI_snoc (x : Int) (ns : List Int) (j : Nat) (h : j < ns.length) : cI x (ns.take (j + 1)) = cI x (ns.take j) + (if ns[j] = x then 1 else 0) := by
  rw [List.take_succ_eq_append_getElem h, cI_app]; simp [cI]
/-- What is left behind the statement that runs VLOOKUP. -/
def LkAt (L : List (Int × Int)) (l0 l1 : Int) (l2 : ByteArray) (wz wx : World) (Bv : Nat) (v : Value) : Prop := Blk wx Bv #[.int .i64 l0, .int .i64 l1, .string l2] 31 ∧ RowP wx wz.heap.size v L ∧ Below wz.heap.size wz wx
theorem lk_a {L : List (Int × Int)} {l0 l1 : Int} {l2 : ByteArray} {wz w7 : World} {v : Value} {N : Nat} (hr : RowP w7 N v L) (hN : wz.heap.size ≤ N) (hb : Below wz.heap.size wz w7) : LkAt L l0 l1 l2 wz (w7.alloc (.cells #[.int .i64 l0, .int .i64 l1, .string l2] 31)) w7.heap.size v := ⟨Blk.new _ _ _, (hr.low hN).keep (step (Below.refl _ _) _), step hb _⟩
theorem lk_b {L : List (Int × Int)} {l0 l1 : Int} {l2 : ByteArray} {wz w7 wx : World} {v : Value} {N Bv : Nat} (hr : RowP w7 N v L) (hN : wz.heap.size ≤ N) (hb : Below wz.heap.size wz w7) (hB : Blk wx Bv #[.int .i64 l0, .int .i64 l1, .string l2] 31) (hc : Chg (· = Bv) w7 wx) (h1 : wz.heap.size ≤ Bv) (h2 : Bv < N) : LkAt L l0 l1 l2 wz wx Bv v := ⟨hB, (hr.low hN).chg hc (fun k hk e => by have := (owns_lt hr k hk).1; omega), bel_chg hb h1 hc⟩
theorem below_set {wz w : World} {B i : Nat} {v : Value} (h : Below wz.heap.size wz w) (hB : wz.heap.size ≤ B) : Below wz.heap.size wz (w.setCell ⟨B, i, none⟩ v) := bel_chg h hB ((Chg.refl (· = B) w).set B i v rfl)
end Go.Proofs.YtnpdkojhlgchlaaGreatDoor
