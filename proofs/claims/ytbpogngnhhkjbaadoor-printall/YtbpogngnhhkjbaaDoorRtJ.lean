/- quadrilleref11's small functions: level, sign, Error; rows of bytes of one's own. quadrilleref11.text of leaves. quadrilleref11.text of truths and references. -/
import Derived.Test.YtbpogngnhhkjbaaDoorPrJ
import Derived.Lib.AppendStr
import Derived.Great.Walk
import Derived.Test.YtbpogngnhhkjbaaDoorNumT11
import Derived.Test.YtbpogngnhhkjbaaDoorR2J
namespace Go.Proofs.YtbpogngnhhkjbaaDoor.T9
open Go.RowKit Go.Sort
set_option linter.unusedVariables false

set_option maxHeartbeats 1000000 in
set_option maxRecDepth 100000 in
theorem rlevel_any (n : Nd) (s : Value) (w : World) (ho : n.kind = 8 → 1 ≤ n.op ∧ n.op ≤ 12) : Calls Tryd.prog 24 #[exV n s] w fun e w' => e = .returned (.int .i64 (lv n)) ∧ Below w.heap.size w w' := by
  have A := at14 n s
  have c0 := A.c0
  have c1 := A.c1
  clear A
  by_cases h7 : n.kind = 7
  · by_cases h3 : n.op = 3
    · have hv : lv n = 7 := by unfold lv; rw [if_neg (by omega), if_pos h7, if_pos h3]
      rw [hv]
      clear hv ho
      go_enter Tryd.func24, Tryd.ntmps24
      go_wp2_with fail
      go_ret
      exact ⟨rfl, by go_grown⟩
    · have hv : lv n = 6 := by unfold lv; rw [if_neg (by omega), if_pos h7, if_neg h3]
      rw [hv]
      clear hv ho
      go_enter Tryd.func24, Tryd.ntmps24
      go_wp2_with fail
      go_ret
      exact ⟨rfl, by go_grown⟩
  · by_cases h8 : n.kind = 8
    · have hv : lv n = lvB n.op := by unfold lv; rw [if_pos h8]
      rw [hv]
      have hop := op_cases (ho h8)
      clear hv ho
      rcases hop with h | h | h | h | h | h | h | h | h | h | h | h
      all_goals
        rw [h] at c1 ⊢
        go_enter Tryd.func24, Tryd.ntmps24
        go_wp2_with fail
        go_ret
        exact ⟨rfl, by go_grown⟩
    · have hv : lv n = 8 := by unfold lv; rw [if_neg h8, if_neg h7]
      rw [hv]
      clear hv ho
      go_enter Tryd.func24, Tryd.ntmps24
      go_wp2_with fail
      go_ret
      exact ⟨rfl, by go_grown⟩
set_option maxHeartbeats 1000000 in
set_option maxRecDepth 100000 in
theorem rsign_any (op : Int) (h : 1 ≤ op ∧ op ≤ 12) (w : World) : Calls Tryd.prog 25 #[.int .i64 op] w fun e w' => e = .returned (.string (ba (sgB op))) ∧ Below w.heap.size w w' := by
  rcases op_cases h with rfl | rfl | rfl | rfl | rfl | rfl | rfl | rfl | rfl | rfl | rfl | rfl
  all_goals
    go_enter Tryd.func25, Tryd.ntmps25
    go_wp2_with fail
    go_ret
    exact ⟨rfl, by go_grown⟩
set_option maxHeartbeats 1000000 in
set_option maxRecDepth 100000 in
theorem rerr_any (n : Int) (h : 1 ≤ n ∧ n ≤ 6) (w : World) : Calls Tryd.prog 21 #[.int .i64 n] w fun e w' => e = .returned (.string (ba (errL n))) ∧ Below w.heap.size w w' := by
  rcases (show n = 1 ∨ n = 2 ∨ n = 3 ∨ n = 4 ∨ n = 5 ∨ n = 6 by omega) with rfl | rfl | rfl | rfl | rfl | rfl
  all_goals
    go_enter Tryd.func21, Tryd.ntmps21
    go_wp2_with fail
    go_ret
    exact ⟨rfl, by go_grown⟩
theorem itoa_len1 {n : Int} (h : 0 ≤ n) : 1 ≤ (Lib.itoa n).length := by
  obtain ⟨k, rfl⟩ : ∃ k : Nat, n = (k : Int) := ⟨n.toNat, by omega⟩
  rw [itoa_pos]
  exact dec_pos k
theorem errL_len1 (e : Int) : 1 ≤ (errL e).length := by unfold errL; (repeat' split) <;> simp
theorem sgB_len1 {op : Int} (h : 1 ≤ op ∧ op ≤ 12) : 1 ≤ (sgB op).length := by
  rcases op_cases h with rfl | rfl | rfl | rfl | rfl | rfl | rfl | rfl | rfl | rfl | rfl | rfl
  all_goals decide
theorem rfT_len1 (r : Rf) (h : mayB r.row r.col = true) : 1 ≤ (rfT r).length := by
  have h := of_decide_eq_true h
  have e : (rfT r).length = (refB r.row.toNat r.col.toNat r.pr r.pc).size := by unfold rfT; rw [Lib.size_eq]
  have hs : (numeral ((r.row.toNat : Int) + 1)).size = (Lib.itoa ((r.row.toNat : Int) + 1)).length := numeral_size _
  have hi := itoa_len1 (n := (r.row.toNat : Int) + 1) (by omega)
  rw [e]
  unfold refB
  rw [ByteArray.size_append, ByteArray.size_append, ByteArray.size_append]
  omega
theorem nameL_len1 {f : Int} (h : 1 ≤ f ∧ f ≤ 76) : 1 ≤ (nameL f).length := by
  have hall : (List.range 76).all (fun k => decide (1 ≤ (nameL ((k : Int) + 1)).length)) = true := by decide +kernel
  have := List.all_eq_true.1 hall (f - 1).toNat (List.mem_range.2 (by omega))
  have e : (((f - 1).toNat : Nat) : Int) + 1 = f := by omega
  rw [e] at this
  exact of_decide_eq_true this
theorem info_by : (Tryd.prog.info? 5).map (fun i => (i.zero, i.size, i.bytes)) = some (some (.int .u8 0), 1, 1) := by kernel_rfl
/-- A row of bytes of one's own, not empty. -/
def OwB (w : World) (B : Nat) (v : Value) (L : List UInt8) : Prop := 1 ≤ L.length ∧ w.ownsRow B 5 1 v L.length (Lib.byteCells L)
theorem OwB.keep {w w' : World} {B : Nat} {v : Value} {L : List UInt8} (h : OwB w B v L) (hb : Below w.heap.size w w') : OwB w' B v L :=
  ⟨h.1, World.ownsRow.kept (row := none) h.2 ⟨hb.os, hb.tape, hb.output, hb.size, fun k hk _ => hb.block k hk⟩ (by cases v.ownBlock <;> simp)⟩
theorem OwB.alloc {w : World} {B : Nat} {v : Value} {L : List UInt8} (h : OwB w B v L) (o : Obj) : OwB (w.alloc o) B v L := h.keep ((Below.refl _ _).alloc (Nat.le_refl _) _)
/-- What a call that goes on with a row leaves: nothing old is written but the row, and what is no row of bytes; and a block of one byte that is not the row's stays, and the new row is not it. -/
structure Gone (B : Nat) (w w' : World) (v v' : Value) : Prop where
  low : Below B w w'
  oth : Lib.OthersKept 5 none w w'
  one : ∀ X c fz, w.heap[X]? = some (.cells c 5 fz) → c.size = 1 → v.ownBlock ≠ some X → w'.heap[X]? = some (.cells c 5 fz) ∧ v'.ownBlock ≠ some X
theorem Gone.refl (B : Nat) (w : World) (v : Value) : Gone B w w v v := ⟨Below.refl B w, Lib.OthersKept.refl _ _ w, fun _ _ _ h _ h' => ⟨h, h'⟩⟩
theorem Gone.trans {B : Nat} {a b c : World} {v v' v'' : Value} (h : Gone B a b v v') (k : Gone B b c v' v'') : Gone B a c v v'' := ⟨h.low.trans k.low, h.oth.trans k.oth, fun X cs fz h1 h2 h3 => by
  obtain ⟨q1, q2⟩ := h.one X cs fz h1 h2 h3
  exact k.one X cs fz q1 h2 q2⟩
theorem Gone.of_below {B : Nat} {w w' : World} {v : Value} (h : Below w.heap.size w w') (hB : B ≤ w.heap.size) : Gone B w w' v v := ⟨h.mono hB, fun k o hk _ _ => (h.block k (Array.getElem?_eq_some_iff.1 hk).1).trans hk, fun X _ _ hX _ hv => ⟨(h.block X (Array.getElem?_eq_some_iff.1 hX).1).trans hX, hv⟩⟩
theorem Gone.blk {B : Nat} {w w' : World} {v v' : Value} (h : Gone B w w' v v') {X : Nat} {vs : Array Value} {t : TypeId} (hb : Blk w X vs t) (ht : t ≠ 5) : Blk w' X vs t := h.oth X _ hb (by simp) (fun c fz e => ht (by injection e))
theorem OwB.kind {w : World} {B : Nat} {v : Value} {L : List UInt8} (h : OwB w B v L) : ∀ g, v.ownBlock = some g → B ≤ g ∧ ∃ c fz, w.heap[g]? = some (.cells c 5 fz) := by
  intro g hg
  rcases h.2.2 with ⟨hv, _⟩ | ⟨g', cap, cur, hv, hB, hh, _⟩
  · rw [hv] at hg; cases hg
  · rw [hv] at hg
    have : g' = g := Option.some.inj hg
    subst this
    exact ⟨hB, cur, (0, 0), hh⟩
/-- A row of two bytes and more is no block of one. -/
theorem OwB.wide {w : World} {B : Nat} {v : Value} {L : List UInt8} (h : OwB w B v L) (hL : 2 ≤ L.length) {X : Nat} {c : Array Value} {fz : Nat × Nat} (hX : w.heap[X]? = some (.cells c 5 fz)) (hc : c.size = 1) : v.ownBlock ≠ some X := by
  intro e
  rcases h.2.2 with ⟨hv, h0⟩ | ⟨g', cap, cur, hv, hB, hh, h1, h2, h3, _⟩
  · rw [hv] at e; cases e
  · rw [hv] at e
    have : g' = X := Option.some.inj e
    subst this
    rw [hh] at hX
    injection hX with hX
    injection hX with q1 q2 q3
    subst q1
    omega
theorem Gone.grown {B : Nat} {w w' : World} {v v' : Value} {L L' : List UInt8} (h : OwB w B v L) (hg : w.grownBy w' v.ownBlock) (hB : B ≤ w.heap.size) (h' : OwB w' B v' L') (h2 : 2 ≤ L'.length) : Gone B w w' v v' :=
  ⟨⟨hg.os, hg.tape, hg.output, hg.size, fun k hk => hg.block k (by omega) (fun e => by have := (h.kind k e.symm).1; omega)⟩,
   fun k o hk _ ho => (hg.block k (Array.getElem?_eq_some_iff.1 hk).1 (fun e => by
     obtain ⟨_, c, fz, hc⟩ := h.kind k e.symm
     rw [hk] at hc
     exact ho c fz (Option.some.inj hc))).trans hk,
   fun X c fz hX hc hv => by
     have h3 := (hg.block X (Array.getElem?_eq_some_iff.1 hX).1 (fun e => hv e.symm)).trans hX
     exact ⟨h3, h'.wide h2 h3 hc⟩⟩
section
variable {w : World} {ops : Array Oper} {rest : List Oper} {o : Oper} {a : Act} {Q : Exit → Act → World → Prop} {B X : Nat} {v : Value} {L : List UInt8} {c : UInt8}
theorem wpList_appB (hg : o.guard = none) (s x : Operand) (hop : o.op = Op.call { callee := Callee.builtin Builtin.append, args := #[s, x], argTypes := #[37, 37] })
    (hs : a.eval s = v) (hx : a.eval x = .slice (some ⟨X, 0, none⟩) 1 1) (hown : OwB w B v L) (hc : w.cell? ⟨X, 0, none⟩ = some (.int .u8 (c.toNat : Int))) (hl : L.length < 1000000) (hB : B ≤ w.heap.size)
    (hK : ∀ v' w', OwB w' B v' (L ++ [c]) → Gone B w w' v v' → wpList Tryd.prog ops Q rest (a.put o.dst v') w') : wpList Tryd.prog ops Q (o :: rest) a w := by
  obtain ⟨i0, hi, hz0, hz1, hz2⟩ := info_parts info_by
  refine wpList_append_own _ hg s x 37 hop B 5 i0 (.int .u8 0) 1 1 Tryd.underlying37 hi hz0 hz1 hz2 rfl (by decide) v _ _ hs hown.2 ⟨X, 0, none⟩ 1 1 [.int .u8 (c.toNat : Int)] hx rfl (fun j u hj => by
    match j, hj with
    | 0, hj => simp at hj; subst hj; rw [show (⟨X, 0, none⟩ : Addr).add 0 = ⟨X, 0, none⟩ by unfold Addr.add; split <;> simp_all]; exact hc) (fun u hu => by simp at hu; subst hu; rfl) (by unfold maxLen; omega) (by omega) hB ?_
  intro v' w' h1 h2 _
  have h3 : OwB w' B v' (L ++ [c]) := ⟨by simp, by rw [Lib.byteCells_append, List.length_append]; exact h1⟩
  exact hK v' w' h3 (Gone.grown hown h2 hB h3 (by have := hown.1; simp; omega))
theorem wpList_appS (hg : o.guard = none) (s x : Operand) (hop : o.op = Op.call { callee := Callee.builtin Builtin.append, args := #[s, x], argTypes := #[37, 9] })
    (hs : a.eval s = v) (U : List UInt8) (hx : a.eval x = .string (ba U)) (hown : OwB w B v L) (hl : L.length + U.length < 1000000) (hB : B ≤ w.heap.size) (hU : 1 ≤ U.length)
    (hK : ∀ v' w', OwB w' B v' (L ++ U) → Gone B w w' v v' → wpList Tryd.prog ops Q rest (a.put o.dst v') w') : wpList Tryd.prog ops Q (o :: rest) a w := by
  obtain ⟨i0, hi, hz0, hz1, hz2⟩ := info_parts info_by
  refine Lib.wpList_append_own_string _ hg s x 37 9 hop B 5 i0 Tryd.underlying37 Tryd.underlying9 hi hz0 hz1 hz2 v _ _ hs hown.2 (ba U) hx (by rw [ba_size]; unfold maxLen; omega) (by rw [ba_size]; omega) hB ?_
  intro v' w' h1 h2 _
  have h3 : OwB w' B v' (L ++ U) := ⟨by have := hown.1; rw [List.length_append]; omega, by
    rw [Lib.byteCells_append, List.length_append, ← ba_size U]
    exact h1⟩
  exact hK v' w' h3 (Gone.grown hown h2 hB h3 (by have := hown.1; rw [List.length_append]; omega))
end
end Go.Proofs.YtbpogngnhhkjbaaDoor.T9
namespace Go.Proofs.YtbpogngnhhkjbaaDoor.T9
open Go.RowKit Go.Sort
set_option linter.unusedVariables false

/-- What text answers of a tree: the row, and the tree's text behind what there was. -/
def TxP (w0 w : World) (b : Value) (L : List UInt8) (e : Ending) (w' : World) : Prop := ∃ b', e = .returned b' ∧ OwB w' w0.heap.size b' L ∧ Gone w0.heap.size w w' b b'
abbrev TxIs (w0 : World) (t : Ex) : Prop := ∀ (v b : Value) (acc : List UInt8) (w : World), Tree w0 v t → Below w0.heap.size w0 w → OwB w w0.heap.size b acc → acc.length + (txE t).length < 1000000 →
  Calls Tryd.prog 12 #[b, v] w fun e w' => TxP w0 w b (acc ++ txE t) e w'
abbrev FrIs (w0 : World) (t : Ex) : Prop := ∀ (v b : Value) (n : Int) (acc : List UInt8) (w : World), Tree w0 v t → Below w0.heap.size w0 w → OwB w w0.heap.size b acc → acc.length + (frE n t).length < 1000000 →
  Calls Tryd.prog 23 #[b, v, .int .i64 n] w fun e w' => TxP w0 w b (acc ++ frE n t) e w'
set_option maxHeartbeats 2000000 in
set_option maxRecDepth 100000 in
theorem rtx_1 (w0 : World) (nd : Nd) (ks : List Ex) (hk : nd.kind = 1) (h0 : 0 ≤ nd.num) (h1 : nd.num ≤ 9223372036854775807) : TxIs w0 (.mk nd ks) := by
  intro v b acc w ht hlow hown hlen
  obtain ⟨a, len, cap, rfl, _, _, _, _⟩ := ht.un
  have e : txE (.mk nd ks) = leafL nd := by rw [txE_mk]; unfold nodeT; rw [if_neg (by omega), if_neg (by omega), if_neg (by omega)]
  have e2 : leafL nd = Lib.itoa nd.num := by unfold leafL; simp only [hk]; rfl
  rw [e, e2] at hlen ⊢
  have W0 := hide (Gone.of_below (B := w0.heap.size) (v := b) (step (Below.refl w.heap.size w) (exO nd (.slice a len cap))) hlow.size)
  have O0 := hide (hown.alloc (exO nd (.slice a len cap)))
  have hB := hide hlow.size
  obtain ⟨a0, a1, a2, a3, a4, a5, a6, a7, a8, a9, a10, a11, a12, a13⟩ := at14 nd (.slice a len cap)
  rw [hk] at a0
  have HT := hide (fun w => refText_pos nd.num w h0 h1)
  have hU9 := hide (itoa_len1 h0)
  replace hlen := hide hlen
  clear ht hown e e2
  go_enter Tryd.func12, Tryd.ntmps12
  go_wp2_with (first
    | (go_at_call 20; refine (HT.out _).mono ?_; rintro e w1 ⟨rfl, hb⟩; have O1 := hide (O0.out.keep hb); have W1 := hide (W0.out.trans (Gone.of_below hb (Nat.le_trans hB.out W0.out.low.size))); clear hb)
    | (refine wpList_appS rfl _ _ rfl rfl (Lib.itoa nd.num) rfl O1.out hlen.out (Nat.le_trans hB.out W1.out.low.size) hU9.out ?_; intro b' w9 h1 h2; have O9 := hide h1; have W9 := hide (W1.out.trans h2); clear h1 h2))
  go_ret
  exact ⟨_, rfl, O9.out, W9.out⟩
set_option maxHeartbeats 2000000 in
set_option maxRecDepth 100000 in
theorem rtx_4 (w0 : World) (nd : Nd) (ks : List Ex) (hk : nd.kind = 4) (h : 1 ≤ nd.num ∧ nd.num ≤ 6) : TxIs w0 (.mk nd ks) := by
  intro v b acc w ht hlow hown hlen
  obtain ⟨a, len, cap, rfl, _, _, _, _⟩ := ht.un
  have e : txE (.mk nd ks) = leafL nd := by rw [txE_mk]; unfold nodeT; rw [if_neg (by omega), if_neg (by omega), if_neg (by omega)]
  have e2 : leafL nd = errL nd.num := by unfold leafL; simp only [hk]; rfl
  rw [e, e2] at hlen ⊢
  have W0 := hide (Gone.of_below (B := w0.heap.size) (v := b) (step (Below.refl w.heap.size w) (exO nd (.slice a len cap))) hlow.size)
  have O0 := hide (hown.alloc (exO nd (.slice a len cap)))
  have hB := hide hlow.size
  obtain ⟨a0, a1, a2, a3, a4, a5, a6, a7, a8, a9, a10, a11, a12, a13⟩ := at14 nd (.slice a len cap)
  rw [hk] at a0
  have HT := hide (rerr_any nd.num h)
  have hU9 := hide (errL_len1 nd.num)
  replace hlen := hide hlen
  clear ht hown e e2
  go_enter Tryd.func12, Tryd.ntmps12
  go_wp2_with (first
    | (go_at_call 21; refine (HT.out _).mono ?_; rintro e w1 ⟨rfl, hb⟩; have O1 := hide (O0.out.keep hb); have W1 := hide (W0.out.trans (Gone.of_below hb (Nat.le_trans hB.out W0.out.low.size))); clear hb)
    | (refine wpList_appS rfl _ _ rfl rfl (errL nd.num) rfl O1.out hlen.out (Nat.le_trans hB.out W1.out.low.size) hU9.out ?_; intro b' w9 h1 h2; have O9 := hide h1; have W9 := hide (W1.out.trans h2); clear h1 h2))
  go_ret
  exact ⟨_, rfl, O9.out, W9.out⟩
end Go.Proofs.YtbpogngnhhkjbaaDoor.T9
namespace Go.Proofs.YtbpogngnhhkjbaaDoor.T9
open Go.RowKit Go.Sort
set_option linter.unusedVariables false

section
variable {w : World} {ops : Array Oper} {rest : List Oper} {o : Oper} {a : Act} {Q : Exit → Act → World → Prop} {B X : Nat} {v : Value} {L : List UInt8}
/-- One byte of a literal's block is appended. -/
theorem wpList_appK (c : UInt8) (k : Int) (hk : (c.toNat : Int) = k) (hg : o.guard = none) (s x : Operand) (hop : o.op = Op.call { callee := Callee.builtin Builtin.append, args := #[s, x], argTypes := #[37, 37] })
    (hs : a.eval s = v) (hx : a.eval x = .slice (some ⟨X, 0, none⟩) 1 1) (hown : OwB w B v L) (hc : w.cell? ⟨X, 0, none⟩ = some (.int .u8 k)) (hl : L.length < 1000000) (hB : B ≤ w.heap.size)
    (hK : ∀ v' w', OwB w' B v' (L ++ [c]) → Gone B w w' v v' → wpList Tryd.prog ops Q rest (a.put o.dst v') w') : wpList Tryd.prog ops Q (o :: rest) a w :=
  wpList_appB hg s x hop hs hx hown (by rw [hk]; exact hc) hl hB hK
end
theorem OwB.lit {w : World} (k : Int) : (w.alloc (.cells #[.int .u8 k] 5)).cell? ⟨w.heap.size, 0, none⟩ = some (.int .u8 k) := (Blk.new w #[.int .u8 k] 5).one
theorem Gone.alloc {B : Nat} {w w' : World} {v v' : Value} (h : Gone B w w' v v') (hB : B ≤ w.heap.size) (o : Obj) : Gone B w (w'.alloc o) v v' := h.trans (Gone.of_below ((Below.refl _ _).alloc (Nat.le_refl _) _) (Nat.le_trans hB h.low.size))
theorem rref_any (r : Rf) (hm : mayB r.row r.col = true) (w : World) : Calls Tryd.prog 22 #[rfV r] w fun e w' => e = .returned (.tuple #[.string (ba (rfT r)), .int .i64 0]) ∧ Below w.heap.size w w' := by
  obtain ⟨row, col, p, q⟩ := r
  have hm := of_decide_eq_true hm
  obtain ⟨x, rfl⟩ : ∃ x : Nat, row = x := ⟨row.toNat, by simp at hm; omega⟩
  obtain ⟨y, rfl⟩ : ∃ y : Nat, col = y := ⟨col.toNat, by simp at hm; omega⟩
  simp only at hm
  exact refTextR_yes x y p q w (by omega) (by omega)
set_option maxHeartbeats 2000000 in
set_option maxRecDepth 100000 in
theorem rtx_3 (w0 : World) (nd : Nd) (ks : List Ex) (hk : nd.kind = 3) : TxIs w0 (.mk nd ks) := by
  intro v b acc w ht hlow hown hlen
  obtain ⟨a, len, cap, rfl, _, _, _, _⟩ := ht.un
  have e : txE (.mk nd ks) = leafL nd := by rw [txE_mk]; unfold nodeT; rw [if_neg (by omega), if_neg (by omega), if_neg (by omega)]
  have e2 : leafL nd = if nd.num = 1 then [84, 82, 85, 69] else [70, 65, 76, 83, 69] := by unfold leafL; simp only [hk]; rfl
  rw [e, e2] at hlen ⊢
  have W0 := hide (Gone.of_below (B := w0.heap.size) (v := b) (step (Below.refl w.heap.size w) (exO nd (.slice a len cap))) hlow.size)
  have O0 := hide (hown.alloc (exO nd (.slice a len cap)))
  have hB := hide hlow.size
  obtain ⟨a0, a1, a2, a3, a4, a5, a6, a7, a8, a9, a10, a11, a12, a13⟩ := at14 nd (.slice a len cap)
  rw [hk] at a0
  clear ht hown e e2
  by_cases h1 : nd.num = 1
  · rw [if_pos h1] at hlen ⊢
    replace hlen := hide hlen
    go_enter Tryd.func12, Tryd.ntmps12
    go_wp2_with (refine wpList_appS rfl _ _ rfl rfl ([84, 82, 85, 69]) rfl O0.out (hlen.out) (Nat.le_trans hB.out W0.out.low.size) (by decide) ?_; intro b9 w9 h1 h2; have O9 := hide h1; have W9 := hide (W0.out.trans h2); clear h1 h2)
    go_ret
    exact ⟨_, rfl, O9.out, W9.out⟩
  · rw [if_neg h1] at hlen ⊢
    replace hlen := hide hlen
    go_enter Tryd.func12, Tryd.ntmps12
    go_wp2_with (refine wpList_appS rfl _ _ rfl rfl ([70, 65, 76, 83, 69]) rfl O0.out (hlen.out) (Nat.le_trans hB.out W0.out.low.size) (by decide) ?_; intro b9 w9 h1 h2; have O9 := hide h1; have W9 := hide (W0.out.trans h2); clear h1 h2)
    go_ret
    exact ⟨_, rfl, O9.out, W9.out⟩
set_option maxHeartbeats 2000000 in
set_option maxRecDepth 100000 in
theorem rtx_5 (w0 : World) (nd : Nd) (ks : List Ex) (hk : nd.kind = 5) (hm : mayB nd.ref.row nd.ref.col = true) : TxIs w0 (.mk nd ks) := by
  intro v b acc w ht hlow hown hlen
  obtain ⟨a, len, cap, rfl, _, _, _, _⟩ := ht.un
  have e : txE (.mk nd ks) = leafL nd := by rw [txE_mk]; unfold nodeT; rw [if_neg (by omega), if_neg (by omega), if_neg (by omega)]
  have e2 : leafL nd = rfT nd.ref := by unfold leafL; simp only [hk]; rfl
  rw [e, e2] at hlen ⊢
  have W0 := hide (Gone.of_below (B := w0.heap.size) (v := b) (step (Below.refl w.heap.size w) (exO nd (.slice a len cap))) hlow.size)
  have O0 := hide (hown.alloc (exO nd (.slice a len cap)))
  have hB := hide hlow.size
  obtain ⟨a0, a1, a2, a3, a4, a5, a6, a7, a8, a9, a10, a11, a12, a13⟩ := at14 nd (.slice a len cap)
  rw [hk] at a0
  have HT := hide (rref_any nd.ref hm)
  have hU9 := hide (rfT_len1 nd.ref hm)
  replace hlen := hide hlen
  generalize rfT nd.ref = U at *
  clear ht hown e e2
  go_enter Tryd.func12, Tryd.ntmps12
  go_wp2_with (first
    | (go_at_call 22; refine (HT.out _).mono ?_; rintro e w1 ⟨rfl, hb⟩; have O1 := hide (O0.out.keep hb); have W1 := hide (W0.out.trans (Gone.of_below hb (Nat.le_trans hB.out W0.out.low.size))); clear hb)
    | (refine wpList_appS rfl _ _ rfl rfl (U) rfl O1.out (hlen.out) (Nat.le_trans hB.out W1.out.low.size) hU9.out ?_; intro b9 w9 h1 h2; have O9 := hide h1; have W9 := hide (W1.out.trans h2); clear h1 h2))
  go_ret
  exact ⟨_, rfl, O9.out, W9.out⟩
set_option maxHeartbeats 2000000 in
set_option maxRecDepth 100000 in
theorem rtx_6 (w0 : World) (nd : Nd) (ks : List Ex) (hk : nd.kind = 6) (hm : mayB nd.ref.row nd.ref.col = true) (hm2 : mayB nd.to.row nd.to.col = true) : TxIs w0 (.mk nd ks) := by
  intro v b acc w ht hlow hown hlen
  obtain ⟨a, len, cap, rfl, _, _, _, _⟩ := ht.un
  have e : txE (.mk nd ks) = leafL nd := by rw [txE_mk]; unfold nodeT; rw [if_neg (by omega), if_neg (by omega), if_neg (by omega)]
  have e2 : leafL nd = rfT nd.ref ++ [58] ++ rfT nd.to := by unfold leafL; simp only [hk]; rfl
  rw [e, e2] at hlen ⊢
  have W0 := hide (Gone.of_below (B := w0.heap.size) (v := b) (step (Below.refl w.heap.size w) (exO nd (.slice a len cap))) hlow.size)
  have O0 := hide (hown.alloc (exO nd (.slice a len cap)))
  have hB := hide hlow.size
  obtain ⟨a0, a1, a2, a3, a4, a5, a6, a7, a8, a9, a10, a11, a12, a13⟩ := at14 nd (.slice a len cap)
  rw [hk] at a0
  have HT := hide (rref_any nd.ref hm)
  have HU := hide (rref_any nd.to hm2)
  have hU9 := hide (rfT_len1 nd.ref hm)
  have hV9 := hide (rfT_len1 nd.to hm2)
  simp only [List.length_append, List.length_cons, List.length_nil] at hlen
  replace hlen := hide hlen
  have P0 := hide (Blk.new w (exC nd (.slice a len cap)) 30)
  generalize rfT nd.ref = U at *
  generalize rfT nd.to = V at *
  clear ht hown e e2
  go_enter Tryd.func12, Tryd.ntmps12
  go_wp2_with (first
    | (have hq := W1; go_at_call 22; refine (HU.out _).mono ?_; rintro e w2 ⟨rfl, hb⟩; clear hq; have O2 := hide (O1.out.keep hb); have W2 := hide (W1.out.trans (Gone.of_below hb (Nat.le_trans hB.out W1.out.low.size))); clear hb)
    | (go_at_call 22; refine (HT.out _).mono ?_; rintro e w1 ⟨rfl, hb⟩; have O1 := hide (O0.out.keep hb); have W1 := hide (W0.out.trans (Gone.of_below hb (Nat.le_trans hB.out W0.out.low.size))); have P1 := P0.out.keep hb; have d8 := (P1.at' 8).trans a8; have d9 := (P1.at' 9).trans a9; have d10 := (P1.at' 10).trans a10; have d11 := (P1.at' 11).trans a11; clear hb P1)
    | (refine wpList_appS rfl _ _ rfl rfl (V) rfl O4.out (by simp only [List.length_append, List.length_cons, List.length_nil]; have := hlen.out; omega) (Nat.le_trans hB.out W4.out.low.size) hV9.out ?_; intro b9 w9 h1 h2; have O9 := hide h1; have W9 := hide (W4.out.trans h2); clear h1 h2)
    | (refine wpList_appK 58 58 rfl rfl _ _ rfl rfl rfl (O3.out.alloc _) (OwB.lit 58) (by simp only [List.length_append]; have := hlen.out; omega) (Nat.le_trans hB.out (W3.out.alloc hB.out _).low.size) ?_; intro b4 w4 h1 h2; have O4 := hide h1; have W4 := hide ((W3.out.alloc hB.out _).trans h2); clear h1 h2)
    | (refine wpList_appS rfl _ _ rfl rfl (U) rfl O2.out (by have := hlen.out; omega) (Nat.le_trans hB.out W2.out.low.size) hU9.out ?_; intro b3 w3 h1 h2; have O3 := hide h1; have W3 := hide (W2.out.trans h2); clear h1 h2))
  go_ret
  exact ⟨b9, rfl, by have := O9.out; simpa using this, W9.out⟩
end Go.Proofs.YtbpogngnhhkjbaaDoor.T9
