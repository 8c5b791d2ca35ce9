/- FoldIfs: what the law keeps while it lays the values that are given; mathematics and memory. -/
import Derived.Test.YtnpdkojhlgchlaaGreatDoorIfM15
import Derived.Test.YtnpdkojhlgchlaaGreatDoorRun15
namespace Go.Proofs.YtnpdkojhlgchlaaGreatDoor
open Go.RowKit Go.Sort
open T9 (Blk Chg)
set_option linter.unusedVariables false
set_option linter.unusedSimpArgs false

/-- Three lists of one's own, and a variable that is written. -/
structure IfSt (wf wr : World) (XE : Nat) (gv pv wv : Value) (G P : List Va) (L : List (Int × Int)) (e0 e1 : Int) : Prop where
  hg : RowV wr wf.heap.size gv G
  hp : RowV wr wf.heap.size pv P
  hw : RowP wr wf.heap.size wv L
  he : Blk wr XE #[.int .i64 e0, .int .i64 e1, .string no] 31
  gp : ∀ k, gv.ownBlock = some k → pv.ownBlock ≠ some k
  gw : ∀ k, gv.ownBlock = some k → wv.ownBlock ≠ some k
  pw : ∀ k, pv.ownBlock = some k → wv.ownBlock ≠ some k
  lt : XE < wf.heap.size
  chg : Chg (· = XE) wf wr
section
variable {wf wr w' : World} {XE : Nat} {gv pv wv v' : Value} {G P G' : List Va} {L L' : List (Int × Int)} {e0 e1 : Int}
theorem IfSt.keep (h : IfSt wf wr XE gv pv wv G P L e0 e1) (hb : Below wr.heap.size wr w') : IfSt wf w' XE gv pv wv G P L e0 e1 :=
  ⟨h.hg.keep hb, h.hp.keep hb, h.hw.keep hb, h.he.keep hb, h.gp, h.gw, h.pw, h.lt, h.chg.trans (Chg.of_below hb)⟩
theorem chg_grown {ob : Option Nat} (h : Chg (· = XE) wf wr) (g : wr.grownBy w' ob) (hn : ∀ k, ob = some k → wf.heap.size ≤ k) : Chg (· = XE) wf w' :=
  ⟨g.os.trans h.os, g.tape.trans h.tape, g.output.trans h.output, Nat.le_trans h.size g.size, fun k hk hx => (g.block k (Nat.lt_of_lt_of_le hk h.size) (fun e => Nat.lt_irrefl _ (Nat.lt_of_lt_of_le hk (hn k e.symm)))).trans (h.block k hk hx)⟩
theorem IfSt.appG (h : IfSt wf wr XE gv pv wv G P L e0 e1) (g1 : RowV w' wf.heap.size v' G') (g2 : wr.grownBy w' gv.ownBlock) (g3 : v'.ownBlock = gv.ownBlock ∨ v'.ownBlock = some wr.heap.size) : IfSt wf w' XE v' pv wv G' P L e0 e1 := by
  refine ⟨g1, owns_keep h.hp (fun k hk => g2.block k (owns_lt h.hp k hk).2 (fun e => h.gp k e.symm hk)), owns_keep h.hw (fun k hk => g2.block k (owns_lt h.hw k hk).2 (fun e => h.gw k e.symm hk)), (g2.block XE h.he.lt (fun e => Nat.lt_irrefl _ (Nat.lt_of_lt_of_le h.lt (owns_lt h.hg XE e.symm).1))).trans h.he, fun k hk hk2 => ?_, fun k hk hk2 => ?_, h.pw, h.lt, chg_grown h.chg g2 (fun k e => (owns_lt h.hg k e).1)⟩
  · rcases g3 with g3 | g3
    · exact h.gp k (g3 ▸ hk) hk2
    · rw [g3] at hk; cases hk; exact Nat.lt_irrefl _ (owns_lt h.hp _ hk2).2
  · rcases g3 with g3 | g3
    · exact h.gw k (g3 ▸ hk) hk2
    · rw [g3] at hk; cases hk; exact Nat.lt_irrefl _ (owns_lt h.hw _ hk2).2
theorem IfSt.appP (h : IfSt wf wr XE gv pv wv G P L e0 e1) (g1 : RowV w' wf.heap.size v' G') (g2 : wr.grownBy w' pv.ownBlock) (g3 : v'.ownBlock = pv.ownBlock ∨ v'.ownBlock = some wr.heap.size) : IfSt wf w' XE gv v' wv G G' L e0 e1 := by
  refine ⟨owns_keep h.hg (fun k hk => g2.block k (owns_lt h.hg k hk).2 (fun e => h.gp k hk e.symm)), g1, owns_keep h.hw (fun k hk => g2.block k (owns_lt h.hw k hk).2 (fun e => h.pw k e.symm hk)), (g2.block XE h.he.lt (fun e => Nat.lt_irrefl _ (Nat.lt_of_lt_of_le h.lt (owns_lt h.hp XE e.symm).1))).trans h.he, fun k hk hk2 => ?_, h.gw, fun k hk hk2 => ?_, h.lt, chg_grown h.chg g2 (fun k e => (owns_lt h.hp k e).1)⟩
  · rcases g3 with g3 | g3
    · exact h.gp k hk (g3 ▸ hk2)
    · rw [g3] at hk2; cases hk2; exact Nat.lt_irrefl _ (owns_lt h.hg _ hk).2
  · rcases g3 with g3 | g3
    · exact h.pw k (g3 ▸ hk) hk2
    · rw [g3] at hk; cases hk; exact Nat.lt_irrefl _ (owns_lt h.hw _ hk2).2
theorem IfSt.appW (h : IfSt wf wr XE gv pv wv G P L e0 e1) (g1 : RowP w' wf.heap.size v' L') (g2 : wr.grownBy w' wv.ownBlock) (g3 : v'.ownBlock = wv.ownBlock ∨ v'.ownBlock = some wr.heap.size) : IfSt wf w' XE gv pv v' G P L' e0 e1 := by
  refine ⟨owns_keep h.hg (fun k hk => g2.block k (owns_lt h.hg k hk).2 (fun e => h.gw k hk e.symm)), owns_keep h.hp (fun k hk => g2.block k (owns_lt h.hp k hk).2 (fun e => h.pw k hk e.symm)), g1, (g2.block XE h.he.lt (fun e => Nat.lt_irrefl _ (Nat.lt_of_lt_of_le h.lt (owns_lt h.hw XE e.symm).1))).trans h.he, h.gp, fun k hk hk2 => ?_, fun k hk hk2 => ?_, h.lt, chg_grown h.chg g2 (fun k e => (owns_lt h.hw k e).1)⟩
  · rcases g3 with g3 | g3
    · exact h.gw k hk (g3 ▸ hk2)
    · rw [g3] at hk2; cases hk2; exact Nat.lt_irrefl _ (owns_lt h.hg _ hk).2
  · rcases g3 with g3 | g3
    · exact h.pw k hk (g3 ▸ hk2)
    · rw [g3] at hk2; cases hk2; exact Nat.lt_irrefl _ (owns_lt h.hp _ hk).2
theorem IfSt.setE {d0 d1 : Int} (h : IfSt wf wr XE gv pv wv G P L e0 e1) (hb : Blk w' XE #[.int .i64 d0, .int .i64 d1, .string no] 31) (hc : Chg (· = XE) wr w') : IfSt wf w' XE gv pv wv G P L d0 d1 := by
  have hl := h.lt
  exact ⟨owns_keep h.hg (fun k hk => hc.block k (owns_lt h.hg k hk).2 (fun e => by have := (owns_lt h.hg k hk).1; omega)), owns_keep h.hp (fun k hk => hc.block k (owns_lt h.hp k hk).2 (fun e => by have := (owns_lt h.hp k hk).1; omega)), owns_keep h.hw (fun k hk => hc.block k (owns_lt h.hw k hk).2 (fun e => by have := (owns_lt h.hw k hk).1; omega)), hb, h.gp, h.gw, h.pw, h.lt, h.chg.trans hc⟩
end
section
variable {w : World} {ops : Array Oper} {rest : List Oper} {o : Oper} {a : Act} {Q : Exit → Act → World → Prop} {B X : Nat} {v : Value} {L : List Va}
theorem wpList_appVo (hg : o.guard = none) (s y : Operand) (hop : o.op = Op.call { callee := Callee.builtin Builtin.append, args := #[s, y], argTypes := #[37, 37] })
    (hs : a.eval s = v) (hx : a.eval y = .slice (some ⟨X, 0, none⟩) 1 1) (hown : RowV w B v L) (p : Va) (hc : w.rangeAt X 0 (vaC p)) (hl : L.length < 1000000) (hB : B ≤ w.heap.size)
    (hK : ∀ v' w', RowV w' B v' (L ++ [p]) → w.grownBy w' v.ownBlock → (v'.ownBlock = v.ownBlock ∨ v'.ownBlock = some w.heap.size) → wpList Tryz.prog ops Q rest (a.put o.dst v') w') : wpList Tryz.prog ops Q (o :: rest) a w := by
  obtain ⟨i0, hi, hz0, hz1, hz2⟩ := info_parts info_va
  refine wpList_append_own_at _ hg s y 37 hop B 31 i0 _ 3 32 Tryz.underlying37 hi hz0 hz1 hz2 rfl (by decide) v L.length (flV L) hs hown ⟨X, 0, none⟩ 1 1 (vaC p) hx rfl (fun j u hj => by rw [Addr.add_mid, Nat.zero_add]; have := hc j u hj; rwa [Nat.zero_add] at this) (fun u hu => by simp at hu; rcases hu with rfl | rfl | rfl <;> rfl) (by unfold maxLen; omega) (by omega) hB ?_
  intro v' w' h1 h2 _ h4
  exact hK v' w' (by unfold RowV; rw [flV_app, List.length_append]; simpa [flV] using h1) h2 h4
theorem wpList_appVV (hg : o.guard = none) (s y : Operand) (hop : o.op = Op.call { callee := Callee.builtin Builtin.append, args := #[s, y], argTypes := #[37, 37] })
    (hs : a.eval s = v) (hx : a.eval y = .slice (some ⟨X, 0, none⟩) 2 2) (hown : RowV w B v L) (p q : Va) (hc : w.rangeAt X 0 (vaC p ++ vaC q)) (hl : L.length < 1000000) (hB : B ≤ w.heap.size)
    (hK : ∀ v' w', RowV w' B v' (L ++ [p, q]) → w.grownBy w' v.ownBlock → (v'.ownBlock = v.ownBlock ∨ v'.ownBlock = some w.heap.size) → wpList Tryz.prog ops Q rest (a.put o.dst v') w') : wpList Tryz.prog ops Q (o :: rest) a w := by
  obtain ⟨i0, hi, hz0, hz1, hz2⟩ := info_parts info_va
  refine wpList_append_own_at _ hg s y 37 hop B 31 i0 _ 3 32 Tryz.underlying37 hi hz0 hz1 hz2 rfl (by decide) v L.length (flV L) hs hown ⟨X, 0, none⟩ 2 2 (vaC p ++ vaC q) hx rfl (fun j u hj => by rw [Addr.add_mid, Nat.zero_add]; have := hc j u hj; rwa [Nat.zero_add] at this) (fun u hu => by simp at hu; rcases hu with rfl | rfl | rfl | rfl | rfl | rfl <;> rfl) (by unfold maxLen; omega) (by omega) hB ?_
  intro v' w' h1 h2 _ h4
  exact hK v' w' (by unfold RowV; rw [flV_app, List.length_append]; simpa [flV] using h1) h2 h4
end
/-- What is left to be laid from a place on. -/
def rsI (x wr : Int) (ys : List (Int × Int)) (j : Nat) (en : Bool) (S : Int) : List Va × List (Int × Int) × Va := if en then ([], [], ⟨4, 5, no⟩) else ifs x wr (ys.drop j) j S
def InvI (x wr : Int) (ys : List (Int × Int)) (j : Nat) (en : Bool) (S : Int) (G : List Va) (L : List (Int × Int)) : Prop := ifs x wr ys 0 0 = (G ++ (rsI x wr ys j en S).1, L ++ (rsI x wr ys j en S).2.1, (rsI x wr ys j en S).2.2)
theorem invI_0 (x wr : Int) (ys : List (Int × Int)) : InvI x wr ys 0 false 0 [] [] := by unfold InvI rsI; simp
theorem invI_en {x wr : Int} {ys : List (Int × Int)} {j : Nat} {S : Int} {G : List Va} {L : List (Int × Int)} (h : InvI x wr ys j true S G L) : InvI x wr ys (j + 1) true S G L := by unfold InvI rsI at *; simpa using h
theorem invI_no {x wr : Int} {ys : List (Int × Int)} {j : Nat} {S n y : Int} {G : List Va} {L : List (Int × Int)} (h : InvI x wr ys j false S G L) (hy : ys[j]? = some (n, y)) (hn : n ≠ x) : InvI x wr ys (j + 1) false S (G ++ [nmV n]) (L ++ [((j : Int), 0)]) := by
  obtain ⟨hj, e⟩ := List.getElem?_eq_some_iff.1 hy
  unfold InvI rsI at *
  rw [h]
  simp only [Bool.false_eq_true, if_false]
  rw [List.drop_eq_getElem_cons hj, e, ifs, if_neg hn]
  simp
theorem invI_bad {x wr : Int} {ys : List (Int × Int)} {j : Nat} {S y : Int} {G : List Va} {L : List (Int × Int)} (h : InvI x wr ys j false S G L) (hy : ys[j]? = some (x, y)) (hw : (j : Int) = wr) : InvI x wr ys (j + 1) true S ((G ++ [nmV x]) ++ [⟨4, 5, no⟩]) ((L ++ [((j : Int), 0)]) ++ [((j : Int), 1)]) := by
  obtain ⟨hj, e⟩ := List.getElem?_eq_some_iff.1 hy
  unfold InvI rsI at *
  rw [h]
  simp only [Bool.false_eq_true, if_false, if_true]
  rw [List.drop_eq_getElem_cons hj, e, ifs, if_pos rfl, if_pos hw]
  simp
theorem invI_yes {x wr : Int} {ys : List (Int × Int)} {j : Nat} {S y : Int} {G : List Va} {L : List (Int × Int)} (h : InvI x wr ys j false S G L) (hy : ys[j]? = some (x, y)) (hw : (j : Int) ≠ wr) : InvI x wr ys (j + 1) false (S + y) ((G ++ [nmV x]) ++ [nmV y]) ((L ++ [((j : Int), 0)]) ++ [((j : Int), 1)]) := by
  obtain ⟨hj, e⟩ := List.getElem?_eq_some_iff.1 hy
  unfold InvI rsI at *
  rw [h]
  simp only [Bool.false_eq_true, if_false]
  rw [List.drop_eq_getElem_cons hj, e, ifs, if_pos rfl, if_neg hw]
  simp
theorem invI_end {x wr : Int} {ys : List (Int × Int)} {en : Bool} {S : Int} {G : List Va} {L : List (Int × Int)} (h : InvI x wr ys ys.length en S G L) : ifs x wr ys 0 0 = (G, L, if en then ⟨4, 5, no⟩ else ⟨1, S, no⟩) := by
  unfold InvI rsI at h
  rw [h, List.drop_length, ifs]
  cases en <;> simp
/-- The pairs of two columns: as they are and less a thousand's multiples; both so. -/
def ysO (ns ms : List Int) : List (Int × Int) := (ns.zip ms).map fun p => (p.1, p.2.tmod 1000)
def zsO (ns ms : List Int) : List (Int × Int) := (ns.zip ms).map fun p => (p.1.tmod 1000, p.2.tmod 1000)
theorem ys_len {ns ms : List Int} (h : ns.length ≤ ms.length) : (ysO ns ms).length = ns.length := by simp [ysO]; omega
theorem zs_len {ns ms : List Int} (h : ns.length ≤ ms.length) : (zsO ns ms).length = ns.length := by simp [zsO]; omega
theorem ys_at {ns ms : List Int} {j : Nat} {n v : Int} (h1 : ns[j]? = some n) (h2 : ms[j]? = some v) : (ysO ns ms)[j]? = some (n, v.tmod 1000) := by
  have h : (ns.zip ms)[j]? = some (n, v) := List.getElem?_zip_eq_some.2 ⟨h1, h2⟩
  rw [ysO, List.getElem?_map, h]; rfl
theorem zs_at {ns ms : List Int} {j : Nat} {n v : Int} (h1 : ns[j]? = some n) (h2 : ms[j]? = some v) : (zsO ns ms)[j]? = some (n.tmod 1000, v.tmod 1000) := by
  have h : (ns.zip ms)[j]? = some (n, v) := List.getElem?_zip_eq_some.2 ⟨h1, h2⟩
  rw [zsO, List.getElem?_map, h]; rfl
theorem tm_bd (v : Int) : -1000 < v.tmod 1000 ∧ v.tmod 1000 < 1000 := by
  have h1 := Int.tmod_lt_of_pos v (show (0 : Int) < 1000 by decide)
  have h2 : (v.tmod 1000).natAbs < 1000 := by rw [Int.natAbs_tmod]; exact Nat.mod_lt _ (by decide)
  omega
theorem ys_bd {ns ms : List Int} (h : ∀ y ∈ ns, -9223372036854775808 ≤ y ∧ y ≤ 9223372036854775807) : ∀ q ∈ ysO ns ms, (-9223372036854775808 ≤ q.1 ∧ q.1 ≤ 9223372036854775807) ∧ -1000 < q.2 ∧ q.2 < 1000 := fun q hq => by
  obtain ⟨p, hp, rfl⟩ := List.mem_map.1 hq
  exact ⟨h _ (List.of_mem_zip hp).1, tm_bd _⟩
theorem zs_bd {ns ms : List Int} : ∀ q ∈ zsO ns ms, (-1000 < q.1 ∧ q.1 < 1000) ∧ -1000 < q.2 ∧ q.2 < 1000 := fun q hq => by
  obtain ⟨p, hp, rfl⟩ := List.mem_map.1 hq
  exact ⟨tm_bd _, tm_bd _⟩
theorem pr_snoc {zs : List (Int × Int)} {j : Nat} {n y : Int} (h : zs[j]? = some (n, y)) : prV (zs.take (j + 1)) = prV (zs.take j) ++ [nmV n, nmV y] ∧ prD (zs.take (j + 1)) 0 = prD (zs.take j) 0 + n * y := by
  obtain ⟨hj, e⟩ := List.getElem?_eq_some_iff.1 h
  rw [List.take_succ_eq_append_getElem hj, e, prV_app, prD_app]
  exact ⟨rfl, rfl⟩
theorem prD_bd : ∀ (zs : List (Int × Int)) (d : Int) (b : Nat), (∀ q ∈ zs, (-1000 < q.1 ∧ q.1 < 1000) ∧ -1000 < q.2 ∧ q.2 < 1000) → -(1000000 * (b : Int)) ≤ d → d ≤ 1000000 * (b : Int) → -(1000000 * ((b + zs.length : Nat) : Int)) ≤ prD zs d ∧ prD zs d ≤ 1000000 * ((b + zs.length : Nat) : Int)
  | [], d, b, _, h1, h2 => ⟨h1, h2⟩
  | q :: r, d, b, hb, h1, h2 => by
    have hq := hb q (List.mem_cons_self ..)
    have hz := mul_small q.1 q.2 hq.1 hq.2
    have := prD_bd r (d + q.1 * q.2) (b + 1) (fun a ha => hb a (List.mem_cons_of_mem _ ha)) (by generalize q.1 * q.2 = z at *; omega) (by generalize q.1 * q.2 = z at *; omega)
    rw [prD]
    simp only [List.length_cons]
    rw [show b + (r.length + 1) = b + 1 + r.length by omega]
    exact this
end Go.Proofs.YtnpdkojhlgchlaaGreatDoor
