/- Lists of one's own that grow by one element: of areas. area.Of. -/
import Derived.Test.YtgopolelpckjcaaKit9b
import Derived.Maps.AppendAt
namespace Go.Proofs.Ytgopolelpckjcaa
open Go.RowKit Go.Sort
set_option linter.unusedVariables false

theorem info_parts {P : Program} {t : TypeId} {z : Value} {n b : Nat} (h : (P.info? t).map (fun i => (i.zero, i.size, i.bytes)) = some (some z, n, b)) : ∃ i, P.info? t = some i ∧ i.zero = some z ∧ i.size = n ∧ i.bytes = b := by
  cases hq : P.info? t with
  | none => simp [hq] at h
  | some i => simp [hq] at h; exact ⟨i, rfl, h.1, h.2.1, h.2.2⟩
theorem below_regrown (w : World) (d : Nat) (os : Array Obj) : Below w.heap.size w (grow (redrawn w d) os) :=
  ⟨rfl, rfl, rfl, by simp [grow, redrawn], fun k hk => by show (w.heap ++ os)[k]? = w.heap[k]?; rw [Array.getElem?_append_left hk]⟩
/-- An area. -/
abbrev Ar := Int × Int × Int × Int
abbrev arC (a : Ar) : List Value := [.int .i64 a.1, .int .i64 a.2.1, .int .i64 a.2.2.1, .int .i64 a.2.2.2]
abbrev arV (a : Ar) : Value := .agg #[.int .i64 a.1, .int .i64 a.2.1, .int .i64 a.2.2.1, .int .i64 a.2.2.2]
def flA (L : List Ar) : List Value := L.flatMap arC
theorem flA_len (L : List Ar) : (flA L).length = L.length * 4 := by
  induction L with
  | nil => rfl
  | cons a L ih => simp [flA, List.flatMap_cons] at ih ⊢; omega
theorem flA_app (L M : List Ar) : flA (L ++ M) = flA L ++ flA M := by simp [flA]
theorem info_area : (Try.prog.info? 47).map (fun i => (i.zero, i.size, i.bytes)) = some (some (.agg #[.int .i64 0, .int .i64 0, .int .i64 0, .int .i64 0]), 4, 32) := by kernel_rfl
/-- A list of areas of one's own. -/
def RowA (w : World) (B : Nat) (v : Value) (L : List Ar) : Prop := w.ownsRow B 47 4 v L.length (flA L)
theorem owns_keep {w w' : World} {B : Nat} {e : TypeId} {z : Nat} {v : Value} {n : Nat} {xs : List Value} (h : w.ownsRow B e z v n xs) (hb : ∀ k, v.ownBlock = some k → w'.heap[k]? = w.heap[k]?) : w'.ownsRow B e z v n xs := by
  refine ⟨h.1, ?_⟩
  rcases h.2 with h2 | ⟨g, cap, cur, rfl, h1, h2, h3⟩
  · exact .inl h2
  · exact .inr ⟨g, cap, cur, rfl, h1, (hb g rfl).trans h2, h3⟩
theorem owns_lt {w : World} {B : Nat} {e : TypeId} {z : Nat} {v : Value} {n : Nat} {xs : List Value} (h : w.ownsRow B e z v n xs) : ∀ k, v.ownBlock = some k → B ≤ k ∧ k < w.heap.size := by
  intro k hk
  rcases h.2 with ⟨rfl, _⟩ | ⟨g, cap, cur, rfl, h1, h2, h3⟩
  · cases hk
  · cases hk
    exact ⟨h1, (Array.getElem?_eq_some_iff.1 h2).1⟩
section
variable {w : World} {ops : Array Oper} {rest : List Oper} {o : Oper} {a : Act} {Q : Exit → Act → World → Prop} {B X : Nat} {v : Value} {L : List Ar} {x : Ar}
theorem run_appA (ty : TypeId) (hown : RowA w B v L) (hc : w.rangeAt X 0 (arC x)) (hl : L.length < 1000000) (hB : B ≤ w.heap.size) :
    ∃ v' w', (Builtin.append_ #[41, 41] ty #[v, .slice (some ⟨X, 0, none⟩) 1 1]).run Try.prog w = .ok v' w' ∧ RowA w' B v' (L ++ [x]) ∧ w.grownBy w' v.ownBlock ∧ (v'.ownBlock = v.ownBlock ∨ v'.ownBlock = some w.heap.size) := by
  obtain ⟨i0, hi, hz0, hz1, hz2⟩ := info_parts info_area
  obtain ⟨v', w', h1, h2, h3, _, h4⟩ := run_append_own_at (P := Try.prog) w B 41 ty 47 i0 (.agg #[.int .i64 0, .int .i64 0, .int .i64 0, .int .i64 0]) 4 32 Try.underlying41 hi hz0 hz1 hz2 rfl (by decide) v L.length (flA L) hown
    ⟨X, 0, none⟩ 1 1 (arC x) rfl (fun j u hj => by rw [Addr.add_mid, Nat.zero_add]; have := hc j u hj; rwa [Nat.zero_add] at this) (fun u hu => by simp at hu; rcases hu with rfl | rfl | rfl | rfl <;> rfl) (by unfold maxLen; omega) (by omega) hB
  exact ⟨v', w', h1, by unfold RowA; rw [flA_app, List.length_append]; simpa [flA] using h2, h3, h4⟩
theorem wpList_appA (hg : o.guard = none) (s y : Operand) (hop : o.op = Op.call { callee := Callee.builtin Builtin.append, args := #[s, y], argTypes := #[41, 41] })
    (hs : a.eval s = v) (hx : a.eval y = .slice (some ⟨X, 0, none⟩) 1 1) (hown : RowA w B v L) (hc : w.rangeAt X 0 (arC x)) (hl : L.length < 1000000) (hB : B ≤ w.heap.size)
    (hK : ∀ v' w', RowA w' B v' (L ++ [x]) → w.grownBy w' v.ownBlock → (v'.ownBlock = v.ownBlock ∨ v'.ownBlock = some w.heap.size) → wpList Try.prog ops Q rest (a.put o.dst v') w') : wpList Try.prog ops Q (o :: rest) a w := by
  refine wpList_plain hg fun K' hK' => ?_
  obtain ⟨v', w', hrun, r1, r2, r3⟩ := run_appA o.type hown hc hl hB
  unfold Oper.wp
  simp [execOp, hop, resolve, invoke, builtin, hs, hx, hrun, Result.andThen]
  exact hK' _ _ (hK v' w' r1 r2 r3)
end
def ofA (a b c d : Int) : Ar := (min a c, min b d, max a c, max b d)
theorem ite_min (x y : Int) : (if y < x then y else x) = min x y := by split <;> omega
set_option maxHeartbeats 1000000 in
theorem of_any (a b c d : Int) (w : World) : Calls Try.prog 28 #[.agg #[.int .i64 a, .int .i64 b], .agg #[.int .i64 c, .int .i64 d]] w fun e w' => e = .returned (arV (ofA a b c d)) ∧ Below w.heap.size w w' := by
  have h1 := ite_min
  have h2 := ite_max
  go_enter Try.func28, Try.ntmps28
  go_wp2_with fail
  refine bodyPost_ret (v := arV (ofA a b c d)) (by simp [results, Try.results28, go_sem, ofA]; try rfl) rfl ?_
  exact ⟨rfl, by go_grown⟩
end Go.Proofs.Ytgopolelpckjcaa
