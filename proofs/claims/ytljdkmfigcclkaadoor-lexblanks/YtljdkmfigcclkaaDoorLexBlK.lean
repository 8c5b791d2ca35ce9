/- What the walk of LexBlanks leans on: the last argument's bytes, a place turned in a row of words, texts and bytes appended to a row of bytes. -/
import Derived.Test.YtljdkmfigcclkaaDoorSpl8
import Derived.Test.YtljdkmfigcclkaaDoorBegun8
namespace Go.Proofs.YtljdkmfigcclkaaDoor
open Go.RowKit Go.Sort
set_option linter.unusedVariables false

/-- A slice of bytes: empty, or with its cells. -/
def BytesIn (w : World) (a : Option Addr) (len : Nat) : Prop := len = 0 ∨ ∃ b off, a = some ⟨b, off, none⟩ ∧ len ≤ maxLen ∧ ∀ j, j < len → ∃ n : Nat, n < 256 ∧ w.cell? ⟨b, off + j, none⟩ = some (.int .u8 (n : Int))
theorem flatW_set (l : List Wd) (j a : Nat) (h : j < l.length) : (flatW l).set (j * 3 + 2) (.int .i64 (a : Int)) = flatW (l.set j { l[j] with at' := a }) := by
  induction l generalizing j with
  | nil => simp at h
  | cons x l ih =>
    cases j with
    | zero => simp [flatW]
    | succ j =>
      have := ih j (by simpa using h)
      rw [flatW_cons, List.set_append, if_neg (by simp; omega)]
      rw [List.set_cons_succ, flatW_cons]
      congr 1
      rw [show (j + 1) * 3 + 2 - [Value.int IntKind.i64 (x.kind : Int), Value.string (ba x.text), Value.int IntKind.i64 (x.at' : Int)].length = j * 3 + 2 by simp; omega]
      exact this
theorem rowW_set {w : World} {B g cap n : Nat} {l : List Wd} (hn : n = l.length) (h : RowW w B (.slice (some ⟨g, 0, none⟩) n cap) l) (j a : Nat) (hj : j < l.length) :
    RowW (w.setCell ⟨g, j * 3 + 2, none⟩ (.int .i64 (a : Int))) B (.slice (some ⟨g, 0, none⟩) n cap) (l.set j { l[j] with at' := a }) := by
  subst hn
  have h1 := (World.ownsRow.stored h (j * 3 + 2) (.int .i64 (a : Int))).1
  rw [flatW_set l j a hj] at h1
  unfold RowW
  rw [List.length_set]; exact h1
theorem rowW_cells {w : World} {B g cap n : Nat} {l : List Wd} (hn : n = l.length) (h : RowW w B (.slice (some ⟨g, 0, none⟩) n cap) l) (j : Nat) (hj : j < l.length) : WdAt w g j l[j] := by
  subst hn
  have ha : ∀ k, (⟨g, 0, none⟩ : Addr).add k = ⟨g, k, none⟩ := fun k => by unfold Addr.add; split <;> simp_all
  obtain ⟨f1, f2, f3⟩ := flatW_get l j hj
  have c1 := World.ownsRow.cells h (g := g) rfl _ _ f1
  have c2 := World.ownsRow.cells h (g := g) rfl _ _ f2
  have c3 := World.ownsRow.cells h (g := g) rfl _ _ f3
  rw [ha] at c1 c2 c3
  exact ⟨c1, c2, c3⟩
theorem rowW_fr {w : World} {B g cap n : Nat} {l : List Wd} (h : RowW w B (.slice (some ⟨g, 0, none⟩) n cap) l) (k : Nat) : w.frozen? ⟨g, k, none⟩ = false := by
  rcases h.2 with ⟨h', _⟩ | ⟨g', cap', cur, h', hb, hg, _⟩
  · simp at h'
  · have : g = g' := by simpa using (Value.slice.inj h').1
    subst this
    simp [World.frozen?, hg]
/-- Two rows of unlike kinds are apart. -/
theorem rows_ne {w : World} {B B' e e' n n' m m' : Nat} {v v' : Value} {xs xs' : List Value} (h : w.ownsRow B e n v m xs) (h' : w.ownsRow B' e' n' v' m' xs') (hne : e ≠ e') (g : Nat) : v.ownBlock = some g → v'.ownBlock ≠ some g := by
  intro h1 h2
  obtain ⟨c, f, h3⟩ := row_kind h g h1
  obtain ⟨c', f', h4⟩ := row_kind h' g h2
  rw [h3] at h4
  cases h4
  exact hne rfl
section
variable {w : World} {ops : Array Oper} {rest : List Oper} {o : Oper} {a : Act} {Q : Exit → Act → World → Prop} {B X m c : Nat} {v : Value} {L N : List UInt8} {t : ByteArray}
theorem wpList_appT (hg : o.guard = none) (s x : Operand) (hop : o.op = Op.call { callee := Callee.builtin Builtin.append, args := #[s, x], argTypes := #[26, 9] })
    (hs : a.eval s = v) (hx : a.eval x = .string t) (hown : Own w B v L) (hl : L.length + t.size < 1000000) (hB : B ≤ w.heap.size)
    (hK : ∀ v' w', Own w' B v' (L ++ t.data.toList) → w.grownBy w' v.ownBlock → wpList Tryd.prog ops Q rest (a.put o.dst v') w') : wpList Tryd.prog ops Q (o :: rest) a w := by
  obtain ⟨i0, hi, hz0, hz1, hz2⟩ := info_parts info_by8
  refine Lib.wpList_append_own_string _ hg s x 26 9 hop B 5 i0 Tryd.underlying26 Tryd.underlying9 hi hz0 hz1 hz2 v _ _ hs hown t hx (by unfold maxLen; omega) (by omega) hB ?_
  intro v' w' h1 h2 _
  exact hK v' w' (by unfold Own; rw [← vs_str, List.length_append, ← Lib.size_eq]; exact h1) h2
theorem wpList_appL (hg : o.guard = none) (s x : Operand) (hop : o.op = Op.call { callee := Callee.builtin Builtin.append, args := #[s, x], argTypes := #[26, 26] })
    (hs : a.eval s = v) (hx : a.eval x = .slice (some ⟨X, 0, none⟩) N.length c) (hown : Own w B v L) (hc : ∀ j (h : j < N.length), w.cell? ⟨X, j, none⟩ = some (.int .u8 (N[j].toNat : Int))) (hl : L.length + N.length < 1000000) (hB : B ≤ w.heap.size)
    (hK : ∀ v' w', Own w' B v' (L ++ N) → w.grownBy w' v.ownBlock → wpList Tryd.prog ops Q rest (a.put o.dst v') w') : wpList Tryd.prog ops Q (o :: rest) a w := by
  obtain ⟨i0, hi, hz0, hz1, hz2⟩ := info_parts info_by8
  refine wpList_append_own _ hg s x 26 hop B 5 i0 (.int .u8 0) 1 1 Tryd.underlying26 hi hz0 hz1 hz2 rfl (by decide) v _ _ hs hown ⟨X, 0, none⟩ N.length c (vs N) hx (by rw [vs_len, Nat.mul_one]) (fun j u hj => by
    have hjl : j < N.length := by
      rw [← vs_len]; exact (List.getElem?_eq_some_iff.1 hj).1
    rw [vs_get N j hjl] at hj
    cases hj
    rw [show (⟨X, 0, none⟩ : Addr).add j = ⟨X, j, none⟩ by unfold Addr.add; split <;> simp_all]
    exact hc j hjl) (fun u hu => by
    unfold vs at hu
    obtain ⟨x, _, rfl⟩ := List.mem_map.1 hu
    rfl) (by unfold maxLen; omega) (by omega) hB ?_
  intro v' w' h1 h2 _
  exact hK v' w' (by unfold Own; rw [show vs (L ++ N) = vs L ++ vs N by simp [vs], List.length_append]; exact h1) h2
end
/-- What stands between the words: the blank that the last argument's byte chooses. -/
def qOf (f : Nat → Nat) (i : Nat) : List UInt8 := blks.getD (f i % 8) [32]
theorem qOf_mem (f : Nat → Nat) (i : Nat) : qOf f i ∈ blks := by
  unfold qOf
  have h : f i % 8 < blks.length := Nat.mod_lt _ (by decide)
  rw [List.getD_eq_getElem?_getD, List.getElem?_eq_getElem h]
  exact List.getElem_mem h
theorem bls_at (q : Nat → List UInt8) : ∀ (l : List Wd) (p i a j : Nat) (h : j < l.length), ((bls q p i a l)[j]'(by rw [bls_len]; exact h)).kind = l[j].kind ∧ ((bls q p i a l)[j]'(by rw [bls_len]; exact h)).text = l[j].text
  | x :: l, p, i, a, 0, h => ⟨rfl, rfl⟩
  | x :: l, p, i, a, j + 1, h => by
    have := bls_at q l x.kind (i + 1) (a + ((if p = 4 then [] else q i) ++ spl x).length) j (by simpa using h)
    simpa [bls] using this
end Go.Proofs.YtljdkmfigcclkaaDoor
