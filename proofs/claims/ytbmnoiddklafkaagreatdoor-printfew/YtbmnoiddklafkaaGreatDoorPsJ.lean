/- Open brackets outside of texts, counted; a pair of brackets struck out; no Go in sight. pairs: the places of brackets that are no call's, each with that of its other one. Proved of the Go text. pairs: its walk. Proved of the Go text. -/
import Derived.Test.YtbmnoiddklafkaaGreatDoorByJ
import Derived.Test.YtbmnoiddklafkaaGreatDoorCtJ
import Derived.WalkSmall
namespace Go.Proofs.YtbmnoiddklafkaaGreatDoor.T9
set_option linter.unusedVariables false

/-- A byte seen: how many brackets were opened, within a text? -/
def opB (s : Nat × Bool) (c : UInt8) : Nat × Bool :=
  if c = 34 then (s.1, !s.2) else if s.2 = true then s else if c = 40 then (s.1 + 1, s.2) else s
def opL (s : Nat × Bool) (l : List UInt8) : Nat × Bool := l.foldl opB s
theorem opL_app (s : Nat × Bool) (a b : List UInt8) : opL s (a ++ b) = opL (opL s a) b := List.foldl_append ..
theorem opL_cons (s : Nat × Bool) (c : UInt8) (b : List UInt8) : opL s (c :: b) = opL (opB s c) b := rfl
theorem opB_sh (n : Nat) (b : Bool) (c : UInt8) : opB (n, b) c = (n + (opB (0, b) c).1, (opB (0, b) c).2) := by
  unfold opB
  by_cases h1 : c = 34
  · simp [h1]
  · cases b
    · by_cases h2 : c = 40
      · simp [h2]
      · simp [h1, h2]
    · simp [h1]
theorem opL_sh : ∀ (l : List UInt8) (n : Nat) (b : Bool), opL (n, b) l = (n + (opL (0, b) l).1, (opL (0, b) l).2)
  | [], n, b => rfl
  | c :: r, n, b => by
    rw [opL_cons, opL_cons, opB_sh n b c]
    generalize opB (0, b) c = s
    obtain ⟨m, d⟩ := s
    rw [opL_sh r (n + m) d, opL_sh r m d]
    simp only [Nat.add_assoc]
theorem opL_plain : ∀ {l : List UInt8} (n : Nat), (∀ c ∈ l, c ≠ 34 ∧ c ≠ 40) → opL (n, false) l = (n, false)
  | [], n, _ => rfl
  | c :: r, n, h => by
    obtain ⟨h1, h2⟩ := h c (by simp)
    rw [opL_cons, show opB (n, false) c = (n, false) by unfold opB; rw [if_neg h1, if_neg (by simp), if_neg h2]]
    exact opL_plain n fun x hx => h x (List.mem_cons_of_mem _ hx)
/-- Two brackets, outside of texts. -/
structure Pair (L : List UInt8) (k i : Nat) : Prop where
  lt : k < i
  le : i < L.length
  op : L[k]? = some 40
  cl : L[i]? = some 41
  ok : (opL (0, false) (L.take k)).2 = false
  oi : (opL (0, false) (L.take i)).2 = false
def strike (L : List UInt8) (k i : Nat) : List UInt8 := L.take k ++ (L.drop (k + 1)).take (i - (k + 1)) ++ L.drop (i + 1)
theorem drop_at {L : List UInt8} {k : Nat} {c : UInt8} (h : L[k]? = some c) : L.drop k = c :: L.drop (k + 1) := by
  obtain ⟨h1, h2⟩ := List.getElem?_eq_some_iff.1 h
  rw [List.drop_eq_getElem_cons h1, h2]
theorem strike_open {L : List UInt8} {k i : Nat} (h : Pair L k i) : (opL (0, false) (strike L k i)).1 + 1 = (opL (0, false) L).1 := by
  have hlt := h.lt
  have hle := h.le
  have e0 : L = L.take k ++ 40 :: ((L.drop (k + 1)).take (i - (k + 1)) ++ 41 :: L.drop (i + 1)) := by
    conv => lhs; rw [← List.take_append_drop k L, drop_at h.op, ← List.take_append_drop (i - (k + 1)) (L.drop (k + 1)), List.drop_drop, show k + 1 + (i - (k + 1)) = i by omega, drop_at h.cl]
  have e1 : L.take i = L.take k ++ 40 :: (L.drop (k + 1)).take (i - (k + 1)) := by
    conv => lhs; rw [← List.take_append_drop k (L.take i)]
    rw [List.take_take, show min k i = k by omega, List.drop_take, drop_at h.op, show i - k = (i - (k + 1)) + 1 by omega, List.take_succ_cons]
  have hi := h.oi
  rw [e1, opL_app] at hi
  have hk := h.ok
  have hL : (opL (0, false) L).1 = (opL (0, false) (L.take k ++ 40 :: ((L.drop (k + 1)).take (i - (k + 1)) ++ 41 :: L.drop (i + 1)))).1 := by rw [← e0]
  rw [hL]
  unfold strike
  generalize L.take k = A at *
  generalize (L.drop (k + 1)).take (i - (k + 1)) = B at *
  generalize L.drop (i + 1) = C at *
  clear hL e0 e1
  rw [opL_app, opL_app, opL_app, opL_cons]
  generalize opL (0, false) A = a at *
  obtain ⟨a, x⟩ := a
  simp only at hk
  subst hk
  rw [show opB (a, false) 40 = (a + 1, false) from rfl]
  rw [opL_cons, show opB (a, false) 40 = (a + 1, false) from rfl, opL_sh] at hi
  simp only at hi
  rw [opL_app, opL_sh B a, opL_sh B (a + 1), hi, opL_cons]
  rw [show opB (a + 1 + (opL (0, false) B).1, false) 41 = (a + 1 + (opL (0, false) B).1, false) from rfl, opL_sh C (a + 1 + _), opL_sh C (a + _)]
  simp only
  omega
end Go.Proofs.YtbmnoiddklafkaaGreatDoor.T9
namespace Go.Proofs.YtbmnoiddklafkaaGreatDoor.T9
open Go.RowKit Go.Sort
set_option linter.unusedVariables false

theorem bt2_eq (c d : UInt8) : ((c.toNat : Int) == (d.toNat : Int)) = decide (c = d) := by
  by_cases h : c = d
  · subst h; simp
  · rw [decide_eq_false h, beq_eq_false_iff_ne]
    intro e
    exact h (UInt8.toNat_inj.1 (by omega))
theorem bt2_yes {c : UInt8} {n : Int} (d : UInt8) (hd : (d.toNat : Int) = n) (h : c = d) : ((c.toNat : Int) == n) = true := by rw [← hd, bt2_eq, decide_eq_true h]
theorem bt2_no {c : UInt8} {n : Int} (d : UInt8) (hd : (d.toNat : Int) = n) (h : ¬ c = d) : ((c.toNat : Int) == n) = false := by rw [← hd, bt2_eq, decide_eq_false h]
/-- A capital letter. -/
def ltr (n : Nat) : Bool := decide (65 ≤ n) && decide (n ≤ 90)
theorem letter_any (n : Nat) (w : World) : Calls Tryz.prog 50 #[.int .u8 (n : Int)] w fun e w' => e = .returned (.bool (ltr n)) ∧ w' = w := by
  by_cases h1 : (65 : Int) ≤ n
  · by_cases h2 : (n : Int) ≤ 90
    · rw [show ltr n = true by unfold ltr; rw [decide_eq_true (show 65 ≤ n by omega), decide_eq_true (show n ≤ 90 by omega)]; rfl]
      go_enter Tryz.func50, Tryz.ntmps50
      go_wp2_with fail
      go_ret
      exact ⟨rfl, rfl⟩
    · rw [show ltr n = false by unfold ltr; rw [decide_eq_false (show ¬ n ≤ 90 by omega), Bool.and_false]]
      go_enter Tryz.func50, Tryz.ntmps50
      go_wp2_with fail
      go_ret
      exact ⟨rfl, rfl⟩
  · rw [show ltr n = false by unfold ltr; rw [decide_eq_false (show ¬ 65 ≤ n by omega), Bool.false_and]]
    go_enter Tryz.func50, Tryz.ntmps50
    go_wp2_with fail
    go_ret
    exact ⟨rfl, rfl⟩
theorem infoN : (Tryz.prog.info? 3).map (fun i => (i.zero, i.size, i.bytes)) = some (some (.int .i64 0), 1, 8) := by kernel_rfl
theorem info2 : (Tryz.prog.info? 61).map (fun i => (i.zero, i.size, i.bytes)) = some (some (.agg #[.int .i64 0, .int .i64 0]), 2, 16) := by kernel_rfl
def vsN (L : List Nat) : List Value := L.map fun (k : Nat) => .int .i64 (k : Int)
def vs2 (L : List (Nat × Nat)) : List Value := L.flatMap fun p => [.int .i64 (p.1 : Int), .int .i64 (p.2 : Int)]
/-- A list of places of one's own. -/
def RowN (w : World) (B : Nat) (v : Value) (L : List Nat) : Prop := w.ownsRow B 3 1 v L.length (vsN L)
/-- A list of pairs of one's own. -/
def RowQ (w : World) (B : Nat) (v : Value) (L : List (Nat × Nat)) : Prop := w.ownsRow B 61 2 v L.length (vs2 L)
theorem vs2_len (L : List (Nat × Nat)) : (vs2 L).length = L.length * 2 := by
  induction L with
  | nil => rfl
  | cons x l ih => unfold vs2 at *; rw [List.flatMap_cons, List.length_append, ih]; simp; omega
theorem RowN.nil (w : World) (B : Nat) : RowN w B (.slice none 0 0) [] := World.ownsRow_nil w B _ _
theorem RowQ.nil (w : World) (B : Nat) : RowQ w B (.slice none 0 0) [] := World.ownsRow_nil w B _ _
theorem RowN.keep {w w' : World} {B : Nat} {v : Value} {L : List Nat} (h : RowN w B v L) (hb : Below w.heap.size w w') : RowN w' B v L := row_keep h hb
theorem RowQ.keep {w w' : World} {B : Nat} {v : Value} {L : List (Nat × Nat)} (h : RowQ w B v L) (hb : Below w.heap.size w w') : RowQ w' B v L := row_keep h hb
theorem rows_two {w : World} {B B' : Nat} {v v' : Value} {K : List Nat} {L : List (Nat × Nat)} (h : RowN w B v K) (h' : RowQ w B' v' L) : ∀ g, v.ownBlock = some g → v'.ownBlock ≠ some g := by
  intro g h1 h2
  obtain ⟨c, f, h3⟩ := row_kind h g h1
  obtain ⟨c', f', h4⟩ := row_kind h' g h2
  rw [h3] at h4
  cases h4
/-- A row grows: the other stays. -/
theorem RowQ.other {w w' : World} {B B' : Nat} {v v' : Value} {K : List Nat} {L : List (Nat × Nat)} (h' : RowQ w B' v' L) (h : RowN w B v K) (hg : w.grownBy w' v.ownBlock) : RowQ w' B' v' L := by
  refine World.ownsRow.kept h' hg ?_
  cases hv : v'.ownBlock with
  | none => exact .inl rfl
  | some g =>
    refine .inr fun e => ?_
    exact rows_two h h' g e.symm hv
theorem RowN.other {w w' : World} {B B' : Nat} {v v' : Value} {K : List Nat} {L : List (Nat × Nat)} (h : RowN w B v K) (h' : RowQ w B' v' L) (hg : w.grownBy w' v'.ownBlock) : RowN w' B v K := by
  refine World.ownsRow.kept h hg ?_
  cases hv : v.ownBlock with
  | none => exact .inl rfl
  | some g =>
    refine .inr fun e => ?_
    exact rows_two h h' g hv e.symm
theorem RowN.last {w : World} {B g n cap : Nat} {K : List Nat} {k : Nat} (hn : K.length = n) (h : RowN w B (.slice (some ⟨g, 0, none⟩) (n + 1) cap) (K ++ [k])) : w.cell? ⟨g, n, none⟩ = some (.int .i64 (k : Int)) := by
  subst hn
  have ha : ∀ j, (⟨g, 0, none⟩ : Addr).add j = ⟨g, j, none⟩ := fun j => by unfold Addr.add; split <;> simp_all
  have h2 : w.ownsRow B 3 1 (.slice (some ⟨g, 0, none⟩) (K.length + 1) cap) (K.length + 1) (vsN (K ++ [k])) := by
    have := h
    unfold RowN at this
    rw [List.length_append] at this
    exact this
  have c1 := World.ownsRow.cells h2 (g := g) rfl K.length (.int .i64 (k : Int)) (by unfold vsN; simp)
  rw [ha] at c1
  exact c1
theorem RowN.pop {w : World} {B g n cap : Nat} {K : List Nat} {k : Nat} (hn : K.length = n) (h : RowN w B (.slice (some ⟨g, 0, none⟩) (n + 1) cap) (K ++ [k])) : RowN w B (.slice (some ⟨g, 0, none⟩) n cap) K := by
  subst hn
  unfold RowN vsN at *
  rw [List.map_append, List.length_append] at h
  exact ownsRow_pop (by simp) h
theorem RowN.capped {w : World} {B g n cap : Nat} {K : List Nat} (h : RowN w B (.slice (some ⟨g, 0, none⟩) n cap) K) : n ≤ cap ∧ cap ≤ maxLen := by
  rcases h.2 with ⟨h', _⟩ | ⟨g', cap', cur, h', hb, hg, h1, h2, h3⟩
  · simp at h'
  · obtain ⟨e1, e2, e3⟩ := Value.slice.inj h'
    have := h.1
    omega
section
variable {w : World} {ops : Array Oper} {rest : List Oper} {o : Oper} {a : Act} {Q : Exit → Act → World → Prop} {B X : Nat} {v : Value}
theorem wpList_appN {L : List Nat} {k : Nat} (hg : o.guard = none) (s x : Operand) (hop : o.op = Op.call { callee := Callee.builtin Builtin.append, args := #[s, x], argTypes := #[42, 42] })
    (hs : a.eval s = v) (hx : a.eval x = .slice (some ⟨X, 0, none⟩) 1 1) (hown : RowN w B v L) (hc : w.cell? ⟨X, 0, none⟩ = some (.int .i64 (k : Int))) (hl : L.length < 1000000) (hB : B ≤ w.heap.size)
    (hK : ∀ v' w', RowN w' B v' (L ++ [k]) → w.grownBy w' v.ownBlock → wpList Tryz.prog ops Q rest (a.put o.dst v') w') : wpList Tryz.prog ops Q (o :: rest) a w := by
  obtain ⟨i0, hi, hz0, hz1, hz2⟩ := info_parts infoN
  have ha : ∀ j, (⟨X, 0, none⟩ : Addr).add j = ⟨X, j, none⟩ := fun j => by unfold Addr.add; split <;> simp_all
  refine wpList_append_own _ hg s x 42 hop B 3 i0 (.int .i64 0) 1 8 Tryz.underlying42 hi hz0 hz1 hz2 rfl (by decide) v _ _ hs hown ⟨X, 0, none⟩ 1 1 [.int .i64 (k : Int)] hx rfl (fun j u hj => by
      rw [ha]
      match j, hj with
      | 0, hj => simp at hj; subst hj; exact hc) (fun u hu => by simp at hu; subst hu; rfl) (by unfold maxLen; omega) (by omega) hB ?_
  intro v' w' h1 h2 _
  exact hK v' w' (by unfold RowN vsN; rw [List.map_append, List.length_append]; exact h1) h2
theorem wpList_appQ {L : List (Nat × Nat)} {p : Nat × Nat} (hg : o.guard = none) (s x : Operand) (hop : o.op = Op.call { callee := Callee.builtin Builtin.append, args := #[s, x], argTypes := #[59, 59] })
    (hs : a.eval s = v) (hx : a.eval x = .slice (some ⟨X, 0, none⟩) 1 1) (hown : RowQ w B v L) (hc : w.cell? ⟨X, 0, none⟩ = some (.int .i64 (p.1 : Int)) ∧ w.cell? ⟨X, 1, none⟩ = some (.int .i64 (p.2 : Int))) (hl : L.length < 1000000) (hB : B ≤ w.heap.size)
    (hK : ∀ v' w', RowQ w' B v' (L ++ [p]) → w.grownBy w' v.ownBlock → wpList Tryz.prog ops Q rest (a.put o.dst v') w') : wpList Tryz.prog ops Q (o :: rest) a w := by
  obtain ⟨i0, hi, hz0, hz1, hz2⟩ := info_parts info2
  have ha : ∀ j, (⟨X, 0, none⟩ : Addr).add j = ⟨X, j, none⟩ := fun j => by unfold Addr.add; split <;> simp_all
  refine wpList_append_own _ hg s x 59 hop B 61 i0 (.agg #[.int .i64 0, .int .i64 0]) 2 16 Tryz.underlying59 hi hz0 hz1 hz2 rfl (by decide) v _ _ hs hown ⟨X, 0, none⟩ 1 1 [.int .i64 (p.1 : Int), .int .i64 (p.2 : Int)] hx rfl (fun j u hj => by
      rw [ha]
      match j, hj with
      | 0, hj => simp at hj; subst hj; exact hc.1
      | 1, hj => simp at hj; subst hj; exact hc.2) (fun u hu => by simp at hu; rcases hu with rfl | rfl <;> rfl) (by unfold maxLen; omega) (by omega) hB ?_
  intro v' w' h1 h2 _
  exact hK v' w' (by unfold RowQ vs2; rw [List.flatMap_append, List.length_append]; exact h1) h2
end
/-- What has been seen of a text up to a place. -/
structure PrI (L : List UInt8) (k : Nat) (b : Bool) (K : List Nat) (P : List (Nat × Nat)) : Prop where
  flag : (opL (0, false) (L.take k)).2 = b
  op : ∀ j ∈ K, j < k ∧ L[j]? = some 40 ∧ (opL (0, false) (L.take j)).2 = false
  pr : ∀ p ∈ P, 0 < p.1 ∧ Pair L p.1 p.2
  ln : K.length ≤ k ∧ P.length ≤ k
theorem opL_next {L : List UInt8} {k : Nat} {c : UInt8} (h : L[k]? = some c) : opL (0, false) (L.take (k + 1)) = opB (opL (0, false) (L.take k)) c := by
  rw [List.take_add_one, h, opL_app]; rfl
theorem PrI.quote {L : List UInt8} {k : Nat} {b : Bool} {K : List Nat} {P : List (Nat × Nat)} (h : PrI L k b K P) (hc : L[k]? = some 34) : PrI L (k + 1) (!b) K P :=
  ⟨by rw [opL_next hc]; show (!(opL (0, false) (L.take k)).2) = !b; rw [h.flag], fun j hj => ⟨Nat.lt_succ_of_lt (h.op j hj).1, (h.op j hj).2⟩, h.pr, by have := h.ln; omega⟩
theorem PrI.skip {L : List UInt8} {k : Nat} {b : Bool} {K : List Nat} {P : List (Nat × Nat)} {c : UInt8} (h : PrI L k b K P) (hc : L[k]? = some c) (h34 : ¬ c = 34) : PrI L (k + 1) b K P := by
  refine ⟨?_, fun j hj => ⟨Nat.lt_succ_of_lt (h.op j hj).1, (h.op j hj).2⟩, h.pr, by have := h.ln; omega⟩
  rw [opL_next hc, ← h.flag]
  generalize opL (0, false) (L.take k) = s
  unfold opB
  rw [if_neg h34]
  split
  · rfl
  · split <;> rfl
theorem PrI.push {L : List UInt8} {k : Nat} {K : List Nat} {P : List (Nat × Nat)} (h : PrI L k false K P) (hc : L[k]? = some 40) : PrI L (k + 1) false (K ++ [k]) P := by
  have h1 := h.skip hc (by decide)
  refine ⟨h1.flag, fun j hj => ?_, h1.pr, by have := h.ln; simp; omega⟩
  rcases List.mem_append.1 hj with hj | hj
  · exact h1.op j hj
  · rw [List.mem_singleton.1 hj]
    exact ⟨Nat.lt_succ_self k, hc, h.flag⟩
theorem PrI.pop {L : List UInt8} {k j : Nat} {K : List Nat} {P : List (Nat × Nat)} (h : PrI L k false (K ++ [j]) P) (hc : L[k]? = some 41) : PrI L (k + 1) false K P := by
  have h1 := h.skip hc (by decide)
  exact ⟨h1.flag, fun i hi => h1.op i (List.mem_append_left _ hi), h1.pr, by have := h.ln; simp at this; omega⟩
theorem PrI.pair {L : List UInt8} {k j : Nat} {K : List Nat} {P : List (Nat × Nat)} (h : PrI L k false (K ++ [j]) P) (hc : L[k]? = some 41) (h0 : 0 < j) : PrI L (k + 1) false K (P ++ [(j, k)]) := by
  have h1 := h.pop hc
  obtain ⟨q1, q2, q3⟩ := h.op j (by simp)
  refine ⟨h1.flag, h1.op, fun p hp => ?_, by have := h.ln; simp at this ⊢; omega⟩
  rcases List.mem_append.1 hp with hp | hp
  · exact h1.pr p hp
  · rw [List.mem_singleton.1 hp]
    exact ⟨h0, q1, (List.getElem?_eq_some_iff.1 hc).1, q2, hc, q3, h.flag⟩
end Go.Proofs.YtbmnoiddklafkaaGreatDoor.T9
namespace Go.Proofs.YtbmnoiddklafkaaGreatDoor.T9
open Go.RowKit Go.Sort
set_option linter.unusedVariables false

theorem row_sl {w : World} {B e n m : Nat} {v : Value} {xs : List Value} (h : w.ownsRow B e n v m xs) (hm : 0 < m) : ∃ g c, v = .slice (some ⟨g, 0, none⟩) m c := by
  rcases h.2 with ⟨rfl, h0⟩ | ⟨g, cap, cur, rfl, _⟩
  · omega
  · exact ⟨_, _, rfl⟩
theorem PrI.init (L : List UInt8) : PrI L 0 false [] [] := ⟨rfl, (fun j hj => by cases hj), (fun p hp => by cases hp), Nat.le_refl _, Nat.le_refl _⟩
theorem byte_at (s : ByteArray) (k : Nat) (h : k < s.size) : s.data.toList[k]? = some s[k] := by
  have h2 : k < s.data.toList.length := by rw [← Lib.size_eq]; exact h
  rw [List.getElem?_eq_getElem h2]
  rfl
/-- What pairs answers. -/
def PaiP (s : ByteArray) (w : World) (e : Ending) (w' : World) : Prop := ∃ (v : Value) (P : List (Nat × Nat)), e = .returned v ∧ RowQ w' w.heap.size v P ∧ (∀ p ∈ P, 0 < p.1 ∧ Pair s.data.toList p.1 p.2) ∧ P.length ≤ 100000 ∧ Below w.heap.size w w'
set_option maxHeartbeats 8000000 in
set_option maxRecDepth 100000 in
theorem pairs_any (s : ByteArray) (hs : s.size ≤ 100000) (w : World) : Calls Tryz.prog 26 #[.string s] w fun e w' => PaiP s w e w' := by
  have hbyt := hide (byte_at s)
  have hsz := hide hs
  have HL := hide letter_any
  go_enter Tryz.func26, Tryz.ntmps26
  go_wp2_with fail
  go_loopw [3, 4, 5, 6] (fun vo vl t i wr => ∃ (k : Nat) (K : List Nat) (P : List (Nat × Nat)) (b : Bool), k ≤ s.size ∧ t = .bool b ∧ i = .int .i64 k ∧ Hid (RowN wr w.heap.size vo K) ∧ Hid (RowQ wr w.heap.size vl P) ∧ Hid (PrI s.data.toList k b K P) ∧ Hid (Below w.heap.size w wr)) (fun _ _ _ i _ => s.size - (intOf i).toNat)
  case atStart => exact ⟨0, [], [], false, Nat.zero_le _, rfl, rfl, hide (RowN.nil _ _), hide (RowQ.nil _ _), hide (PrI.init _), hide (Below.refl _ _)⟩
  case round =>
    obtain ⟨k, K, P, b, hk, rfl, rfl, hN, hQ, hI, hB⟩ := hrel
    by_cases hlt : k < s.size
    · have hki : (k : Int) < s.size := by omega
      have hc := hbyt.out k hlt
      have hkm : k ≤ 100000 := Nat.le_trans (Nat.le_of_lt hlt) hs
      have w1 : wrap64 ((k : Int) + 1) = (k : Int) + 1 := IntWalk.wrap64_in _ ⟨by omega, by omega⟩
      by_cases h34 : s[k] = 34
      · have t1 := bt2_yes (n := 34) 34 rfl h34
        rw [h34] at hc
        have I2 := hide (hI.out.quote hc)
        clear h34 hc
        go_wp2_with fail
        go_roundw
        case rel => exact ⟨k + 1, K, P, !b, by omega, rfl, by go_num, hN, hQ, I2, hB⟩
        case measure =>
          show s.size - Int.toNat ((k : Int) + 1) < s.size - Int.toNat (k : Int)
          omega
      · have t1 := bt2_no (n := 34) 34 rfl h34
        have I1 := hide (hI.out.skip hc h34)
        cases b
        · by_cases h40 : s[k] = 40
          · have t2 := bt2_yes (n := 40) 40 rfl h40
            rw [h40] at hc
            have I2 := hide (hI.out.push hc)
            have R2 := hide (hN.out.keep (step (Below.refl _ wr) (.cells #[.int .i64 (k : Int)] 3)))
            have Q2 := hide (hQ.out.keep (step (Below.refl _ wr) (.cells #[.int .i64 (k : Int)] 3)))
            have B2 := hide (step hB.out (.cells #[.int .i64 (k : Int)] 3))
            have cn := (Go.Proofs.YtbmnoiddklafkaaGreatDoor.Blk.new wr #[.int .i64 (k : Int)] 3).at' 0
            have hz2 := hide hB.out.size
            have hlK := hide hI.out.ln.1
            clear h34 h40 hc
            go_wp2_with (at_builtin; refine wpList_appN (k := k) rfl _ _ rfl rfl rfl R2.out cn (by have := hlK.out; have := hsz.out; omega) (by have := hz2.out; simp; omega) ?_; intro v5 w5 hrow5 hg5; have Q5 := hide (Q2.out.other R2.out hg5); have B5 := hide (B2.out.grown hg5 (by have := hz2.out; simp; omega) (fun j e => (R2.out.lt j e).1)); replace hrow5 := hide hrow5; replace hg5 := hide hg5)
            go_roundw
            case rel => exact ⟨k + 1, K ++ [k], P, false, by omega, rfl, by go_num, hrow5, Q5, I2, B5⟩
            case measure =>
              show s.size - Int.toNat ((k : Int) + 1) < s.size - Int.toNat (k : Int)
              omega
          · have t2 := bt2_no (n := 40) 40 rfl h40
            by_cases h41 : s[k] = 41
            · have t3 := bt2_yes (n := 41) 41 rfl h41
              rw [h41] at hc
              rcases List.eq_nil_or_concat K with rfl | ⟨K', j, hK⟩
              · obtain ⟨a1, c1, rfl⟩ := row_slice hN.out
                simp only [List.length_nil]
                clear h34 h40 h41 hc
                go_wp2_with fail
                go_roundw
                case rel => exact ⟨k + 1, [], P, false, by omega, rfl, by go_num, hN, hQ, I1, hB⟩
                case measure =>
                  show s.size - Int.toNat ((k : Int) + 1) < s.size - Int.toNat (k : Int)
                  omega
              · rw [List.concat_eq_append] at hK
                subst hK
                obtain ⟨g, c1, rfl⟩ := row_sl hN.out (by simp)
                obtain ⟨n, hn⟩ : ∃ n, K'.length = n := ⟨_, rfl⟩
                have hl1 : (K' ++ [j]).length = n + 1 := by rw [List.length_append, hn]; rfl
                rw [hl1] at hN
                rw [hl1]
                have x0 := hN.out.last hn
                have R1 := hide (hN.out.pop hn)
                have hcp := hN.out.capped.1
                have hp1 := hide (hI.out.pop hc)
                have hjk := (hI.out.op j (by simp)).1
                have hlK := hI.out.ln
                rw [hl1] at hlK
                have hnk : n + 1 ≤ 100000 := by omega
                have hlP : Hid (P.length ≤ 100000) := hide (by omega)
                have hwn : wrap64 (n : Int) = (n : Int) := IntWalk.wrap64_in _ ⟨by omega, by omega⟩
                have hn1 : (0 : Int) < (n : Int) + 1 := by omega
                have hn2 : (n : Int) < (n : Int) + 1 := by omega
                have hn3 : (n : Int) ≤ (c1 : Int) := by omega
                have hpr0 := hide (fun h0 => hI.out.pair hc h0)
                clear h34 h40 h41 hlK
                cases j with
                | zero =>
                  clear hpr0 hc
                  go_wp2_with fail
                  go_roundw
                  case rel => exact ⟨k + 1, K', P, false, by omega, rfl, by go_num, R1, hQ, hp1, hB⟩
                  case measure =>
                    show s.size - Int.toNat ((k : Int) + 1) < s.size - Int.toNat (k : Int)
                    omega
                | succ q =>
                  have hq1 : (0 : Int) < (q : Int) + 1 := by omega
                  have hq2 : (q : Int) < s.size := by omega
                  have hq3 : q < s.size := by omega
                  have hwq : wrap64 (q : Int) = (q : Int) := IntWalk.wrap64_in _ ⟨by omega, by omega⟩
                  have HL1 := hide (HL.out s[q].toNat)
                  cases hLT : ltr s[q].toNat with
                  | true =>
                    rw [hLT] at HL1
                    clear hpr0 hc
                    go_wp2_with (go_at_call 50; refine (HL1.out _).mono ?_; rintro e w6 ⟨rfl, hw0⟩; rw [hw0]; clear hw0)
                    go_roundw
                    case rel => exact ⟨k + 1, K', P, false, by omega, rfl, by go_num, R1, hQ, hp1, hB⟩
                    case measure =>
                      show s.size - Int.toNat ((k : Int) + 1) < s.size - Int.toNat (k : Int)
                      omega
                  | false =>
                    rw [hLT] at HL1
                    have I3 := hide (hpr0.out (by omega))
                    have R2 := hide (R1.out.keep (step (Below.refl _ wr) (.cells #[.int .i64 ((q : Int) + 1), .int .i64 (k : Int)] 61)))
                    have Q2 := hide (hQ.out.keep (step (Below.refl _ wr) (.cells #[.int .i64 ((q : Int) + 1), .int .i64 (k : Int)] 61)))
                    have B2 := hide (step hB.out (.cells #[.int .i64 ((q : Int) + 1), .int .i64 (k : Int)] 61))
                    have cn : (wr.alloc (.cells #[.int .i64 ((q : Int) + 1), .int .i64 (k : Int)] 61)).cell? ⟨wr.heap.size, 0, none⟩ = some (.int .i64 ((q + 1 : Nat) : Int)) ∧ (wr.alloc (.cells #[.int .i64 ((q : Int) + 1), .int .i64 (k : Int)] 61)).cell? ⟨wr.heap.size, 1, none⟩ = some (.int .i64 (k : Int)) := ⟨(Go.Proofs.YtbmnoiddklafkaaGreatDoor.Blk.new wr #[.int .i64 ((q : Int) + 1), .int .i64 (k : Int)] 61).at' 0, (Go.Proofs.YtbmnoiddklafkaaGreatDoor.Blk.new wr #[.int .i64 ((q : Int) + 1), .int .i64 (k : Int)] 61).at' 1⟩
                    have hz2 := hide hB.out.size
                    clear hpr0 hc
                    go_wp2_with (first
                      | (go_at_call 50; refine (HL1.out _).mono ?_; rintro e w6 ⟨rfl, hw0⟩; rw [hw0]; clear hw0)
                      | (at_builtin; refine wpList_appQ (p := (q + 1, k)) rfl _ _ rfl rfl rfl Q2.out cn (by have := hlP.out; omega) (by have := hz2.out; simp; omega) ?_; intro v5 w5 hrow5 hg5; have N5 := hide (R2.out.other Q2.out hg5); have B5 := hide (B2.out.grown hg5 (by have := hz2.out; simp; omega) (fun j e => (Q2.out.lt j e).1)); replace hrow5 := hide hrow5; replace hg5 := hide hg5))
                    go_roundw
                    case rel => exact ⟨k + 1, K', P ++ [(q + 1, k)], false, by omega, rfl, by go_num, N5, hrow5, I3, B5⟩
                    case measure =>
                      show s.size - Int.toNat ((k : Int) + 1) < s.size - Int.toNat (k : Int)
                      omega
            · have t3 := bt2_no (n := 41) 41 rfl h41
              clear h34 h40 h41 hc
              go_wp2_with fail
              go_roundw
              case rel => exact ⟨k + 1, K, P, false, by omega, rfl, by go_num, hN, hQ, I1, hB⟩
              case measure =>
                show s.size - Int.toNat ((k : Int) + 1) < s.size - Int.toNat (k : Int)
                omega
        · clear h34 hc
          go_wp2_with fail
          go_roundw
          case rel => exact ⟨k + 1, K, P, true, by omega, rfl, by go_num, hN, hQ, I1, hB⟩
          case measure =>
            show s.size - Int.toNat ((k : Int) + 1) < s.size - Int.toNat (k : Int)
            omega
    · obtain rfl : k = s.size := by omega
      have hki : ¬ ((s.size : Nat) : Int) < s.size := by omega
      go_wp2_with fail
      go_ret
      exact ⟨_, P, rfl, hQ.out, hI.out.pr, by have := hI.out.ln.2; have := hsz.out; omega, hB.out⟩
end Go.Proofs.YtbmnoiddklafkaaGreatDoor.T9
