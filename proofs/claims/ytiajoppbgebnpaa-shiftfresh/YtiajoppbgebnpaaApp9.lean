/- Lists of one's own that grow by one element: of areas. area.Of. -/
import Derived.Test.YtiajoppbgebnpaaKit9b
import Derived.Maps.AppendAt
namespace Go.Proofs.Ytiajoppbgebnpaa
open Go.RowKit Go.Sort
set_option linter.unusedVariables false

theorem info_parts {P : Program} {t : TypeId} {z : Value} {n b : Nat} (h : (P.info? t).map (fun i => (i.zero, i.size, i.bytes)) = some (some z, n, b)) : ∃ i, P.info? t = some i ∧ i.zero = some z ∧ i.size = n ∧ i.bytes = b := by
  cases hq : P.info? t with
  | none => simp [hq] at h
  | some i => simp [hq] at h; exact ⟨i, rfl, h.1, h.2.1, h.2.2⟩
theorem below_regrown (w : World) (d : Nat) (os : Array Obj) : Below w.heap.size w (grow (redrawn w d) os) :=
  ⟨rfl, rfl, rfl, by simp [grow, redrawn], fun k hk => by show (w.heap ++ os)[k]? = w.heap[k]?; rw [Array.getElem?_append_left hk]⟩
/-- An area. -/
abbrev Ar := Int × Int × Int × Int
abbrev arC (a : Ar) : List Value := [.int .i64 a.1, .int .i64 a.2.1, .int .i64 a.2.2.1, .int .i64 a.2.2.2]
abbrev arV (a : Ar) : Value := .agg #[.int .i64 a.1, .int .i64 a.2.1, .int .i64 a.2.2.1, .int .i64 a.2.2.2]
def flA (L : List Ar) : List Value := L.flatMap arC
theorem flA_len (L : List Ar) : (flA L).length = L.length * 4 := by
  induction L with
  | nil => rfl
  | cons a L ih => simp [flA, List.flatMap_cons] at ih ⊢; omega
theorem flA_app (L M : List Ar) : flA (L ++ M) = flA L ++ flA M := by simp [flA]
theorem owns_keep {w w' : World} {B : Nat} {e : TypeId} {z : Nat} {v : Value} {n : Nat} {xs : List Value} (h : w.ownsRow B e z v n xs) (hb : ∀ k, v.ownBlock = some k → w'.heap[k]? = w.heap[k]?) : w'.ownsRow B e z v n xs := by
  refine ⟨h.1, ?_⟩
  rcases h.2 with h2 | ⟨g, cap, cur, rfl, h1, h2, h3⟩
  · exact .inl h2
  · exact .inr ⟨g, cap, cur, rfl, h1, (hb g rfl).trans h2, h3⟩
theorem owns_lt {w : World} {B : Nat} {e : TypeId} {z : Nat} {v : Value} {n : Nat} {xs : List Value} (h : w.ownsRow B e z v n xs) : ∀ k, v.ownBlock = some k → B ≤ k ∧ k < w.heap.size := by
  intro k hk
  rcases h.2 with ⟨rfl, _⟩ | ⟨g, cap, cur, rfl, h1, h2, h3⟩
  · cases hk
  · cases hk
    exact ⟨h1, (Array.getElem?_eq_some_iff.1 h2).1⟩
section
variable {w : World} {ops : Array Oper} {rest : List Oper} {o : Oper} {a : Act} {Q : Exit → Act → World → Prop} {B X : Nat} {v : Value} {L : List Ar} {x : Ar}
end
def ofA (a b c d : Int) : Ar := (min a c, min b d, max a c, max b d)
theorem ite_min (x y : Int) : (if y < x then y else x) = min x y := by split <;> omega
end Go.Proofs.Ytiajoppbgebnpaa
