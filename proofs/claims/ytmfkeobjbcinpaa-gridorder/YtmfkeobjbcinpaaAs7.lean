/- Appending one thing to a row of things in a statement whose order is open. -/
import Derived.Test.YtmfkeobjbcinpaaIt7
namespace Go.Proofs.Ytmfkeobjbcinpaa
open Go.RowKit Go.Shelf Go.Sort Go.Maps
set_option linter.unusedVariables false

theorem step_appT {ops : Array Oper} {o : Oper} {a : Act} {w : World} {K : Act → World → Prop} {Q : Exit → Act → World → Prop} {E : Prop} (hgd : o.guard = none) (sl x : Operand) (t : TypeId)
    (ho : o.op = .call { callee := .builtin .append, args := #[sl, x], argTypes := #[t, t] }) (base : Nat) (e : TypeId) (i : TypeInfo) (z : Value) (bytes : Nat) (ht : Try.prog.underlying t = some (.slice e)) (hi : Try.prog.info? e = some i) (hz : i.zero = some z)
    (hsize : i.size = 1) (hby : i.bytes = bytes) (hzs : z.cells.size = 1) (v : Value) (n : Nat) (xs : List Value) (hs : a.eval sl = v) (hown : w.ownsRow base e 1 v n xs) (X : Nat) (u : Value) (hx : a.eval x = .slice (some ⟨X, 0, none⟩) 1 1)
    (hc : w.cell? ⟨X, 0, none⟩ = some u) (hu : u.oneCell' = true) (h63 : n + 1 ≤ maxLen) (hb : (n + 1) * bytes ≤ 140737488355328) (hbase : base ≤ w.heap.size)
    (h : ∀ v' w', w'.ownsRow base e 1 v' (n + 1) (xs ++ [u]) → w.grownBy w' v.ownBlock → K (a.put o.dst v') w') :
    if Region.wanted o (yielded ops a.tmps) = true then Oper.wp Try.prog o a w K Q else E := by
  have hw : Region.wanted o (yielded ops a.tmps) = true := by simp [Region.wanted, hgd]
  rw [if_pos hw]
  have ha : (⟨X, 0, none⟩ : Addr).add 0 = ⟨X, 0, none⟩ := by unfold Addr.add; split <;> simp_all
  obtain ⟨v', w', hr, h2, h3, _⟩ := run_append_own (P := Try.prog) w base t o.type e i z 1 bytes ht hi hz hsize hby hzs (by decide) v n xs hown ⟨X, 0, none⟩ 1 1 [u] rfl (fun j u' hj => by match j, hj with | 0, hj => simp at hj; subst hj; rw [ha]; exact hc) (fun u' hu' => by simp at hu'; subst hu'; exact hu) h63 hb hbase
  unfold Oper.wp execOp
  simp only [ho, resolve, invoke, builtin, Sem.run_bind, Sem.run_pure, Result.andThen_ok, List.map_toArray, List.map_cons, List.map_nil, hs, hx, hr]
  exact h v' w' h2 h3
/-- A row of things as the cells of its slice. -/
theorem row_things {w : World} {B e n : Nat} {v : Value} {X : List Value} (h : w.ownsRow B e 1 v n X) : ∃ a c bs, v = .slice a n c ∧ ThingsIn w bs a X ∧ (∀ k ∈ bs, B ≤ k ∧ k < w.heap.size) := by
  have hX := h.1
  rcases h.2 with ⟨rfl, h0⟩ | ⟨g, cap, cur, rfl, hB, hg, h1, h2, h3, h4⟩
  · exact ⟨none, 0, [], by rw [h0], .inl (List.eq_nil_of_length_eq_zero (by omega)), by simp⟩
  · refine ⟨_, _, [g], rfl, .inr ⟨g, rfl, by simp, fun j hj => ?_⟩, fun k hk => by simp at hk; subst hk; exact ⟨hB, (Array.getElem?_eq_some_iff.1 hg).1⟩⟩
    have hc := h.cells (g := g) rfl j X[j] (List.getElem?_eq_getElem hj)
    have ha : ∀ j, (⟨g, 0, none⟩ : Addr).add j = ⟨g, j, none⟩ := fun j => by unfold Addr.add; split <;> simp_all
    rw [ha] at hc
    exact hc
theorem SpotsIn.more {w : World} {bs bs' : List Nat} {a : Option Addr} {K : List Sp} (h : SpotsIn w bs a K) (hb : ∀ k ∈ bs, k ∈ bs') : SpotsIn w bs' a K := by
  rcases h with h | ⟨g, e, m, h⟩
  · exact .inl h
  · exact .inr ⟨g, e, hb g m, h⟩
theorem ThingsIn.more {w : World} {bs bs' : List Nat} {a : Option Addr} {X : List Value} (h : ThingsIn w bs a X) (hb : ∀ k ∈ bs, k ∈ bs') : ThingsIn w bs' a X := by
  rcases h with h | ⟨g, e, m, h⟩
  · exact .inl h
  · exact .inr ⟨g, e, hb g m, h⟩
/-- The iterator that asItLies has made. -/
theorem it_made {w : World} {f Bp Bq B : Nat} {TS : TypeId} {a : Option Addr} {cap e : Nat} {v : Value} {M : List (Sp × Value)} {bs0 : List Nat} (hB : B ≤ Bp) (hB' : B ≤ Bq) (b1 : Blk w Bp #[.slice a M.length cap] 28) (b2 : Blk w Bq #[v] TS)
    (hr : w.ownsRow B e 1 v M.length (M.map (·.2))) (hp : SpotsIn w bs0 a (keysT M)) (hbs : ∀ k ∈ bs0, k < w.heap.size) :
    ∃ bs, ItAt w f TS (.func (.func f) #[] #[.pointer (some ⟨Bp, 0, none⟩), .pointer (some ⟨Bq, 0, none⟩)]) M bs ∧ ∀ k ∈ bs, B ≤ k ∨ k ∈ bs0 := by
  obtain ⟨a', c', bs1, rfl, ht, hb1⟩ := row_things hr
  refine ⟨Bp :: Bq :: (bs0 ++ bs1), ⟨?_, Bp, Bq, a, cap, a', c', rfl, by simp, by simp, b1, b2, hp.more (fun k hk => by simp [hk]), ht.more (fun k hk => by simp [hk])⟩, ?_⟩
  · intro k hk
    simp only [List.mem_cons, List.mem_append] at hk
    rcases hk with rfl | rfl | hk | hk
    · exact b1.lt
    · exact b2.lt
    · exact hbs k hk
    · exact (hb1 k hk).2
  · intro k hk
    simp only [List.mem_cons, List.mem_append] at hk
    rcases hk with rfl | rfl | hk | hk
    · exact .inl hB
    · exact .inl hB'
    · exact .inr hk
    · exact .inl (hb1 k hk).1
/-- A row is no block that holds anything else than cells. -/
theorem row_ne_obj {w : World} {B e n m : Nat} {v : Value} {xs : List Value} (h : w.ownsRow B e n v m xs) {j : Nat} {o : Obj} (hj : w.heap[j]? = some o) (ho : o.isCells = false) : some j ≠ v.ownBlock := by
  rcases h.2 with ⟨rfl, _⟩ | ⟨g, cap, cur, rfl, _, hgb, _⟩
  · intro e'; cases e'
  · intro e'
    have : j = g := by simpa [Value.ownBlock] using e'
    subst this
    rw [hj] at hgb; cases hgb; cases ho
theorem row_drew {w : World} {B e n m : Nat} {v : Value} {xs : List Value} (h : w.ownsRow B e n v m xs) : w.drew.ownsRow B e n v m xs := h
theorem blk_drew {w : World} {B : Nat} {vs : Array Value} {t : TypeId} (h : Blk w B vs t) : Blk w.drew B vs t := h
end Go.Proofs.Ytmfkeobjbcinpaa
