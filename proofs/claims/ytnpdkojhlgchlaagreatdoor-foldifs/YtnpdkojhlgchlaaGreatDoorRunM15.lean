/- What the law's run makes of a fold: the mathematics; lists of places of one's own. -/
import Derived.Test.YtnpdkojhlgchlaaGreatDoorBeg15
namespace Go.Proofs.YtnpdkojhlgchlaaGreatDoor
open Go.RowKit Go.Sort
open T9 (Blk Chg)
set_option linter.unusedVariables false

/-- A fold is given the values one behind the other, the last ones 0: what it ends with, and the places that it wanted. -/
def rnS {σ : Type} (stG stC : σ → Va → Stp × σ) (last : σ → Va) (vs : List Va) : Nat → Nat → Fs σ → Option (Va × List (Int × Int))
  | 0, _, _ => none
  | _ + 1, _, .over x => some (x, [])
  | f + 1, i, .wait rest k r c _ s => (rnS stG stC last vs f (i + 1) (giv stG last rest k (stC s ((vs[i]?).getD ⟨1, 0, no⟩)))).map fun p => (p.1, (r, c) :: p.2)
/-- It wants no place beside another one. -/
def Fs.plain {σ : Type} : Fs σ → Prop
  | .over _ => True
  | .wait _ _ _ _ bs _ => bs = false
theorem goOn_plain {σ : Type} (stG : σ → Va → Stp × σ) (last : σ → Va) : ∀ (rest : List Ag) (k : Nat) (s : σ), (goOn stG last rest k s).plain
  | [], _, _ => by rw [goOn]; trivial
  | a :: r, k, s => by
    rw [goOn]
    split
    · split
      · rfl
      · exact goOn_plain stG last r 0 s
    · split
      · trivial
      · exact goOn_plain stG last r 0 _
theorem giv_plain {σ : Type} (stG : σ → Va → Stp × σ) (last : σ → Va) (rest : List Ag) (k : Nat) (p : Stp × σ) : (giv stG last rest k p).plain := by
  obtain ⟨p, s⟩ := p
  cases p with
  | on => exact goOn_plain _ _ _ _ _
  | bes => exact goOn_plain _ _ _ _ _
  | ends y => trivial
abbrev spL (p : Int × Int) : List Value := [.int .i64 p.1, .int .i64 p.2]
def flP (L : List (Int × Int)) : List Value := L.flatMap spL
theorem flP_app (L M : List (Int × Int)) : flP (L ++ M) = flP L ++ flP M := by simp [flP]
/-- A list of places of one's own. -/
def RowP (w : World) (B : Nat) (v : Value) (L : List (Int × Int)) : Prop := w.ownsRow B 47 2 v L.length (flP L)
theorem owns_keep {w w' : World} {B : Nat} {e : TypeId} {z : Nat} {v : Value} {n : Nat} {xs : List Value} (h : w.ownsRow B e z v n xs) (hb : ∀ k, v.ownBlock = some k → w'.heap[k]? = w.heap[k]?) : w'.ownsRow B e z v n xs := by
  refine ⟨h.1, ?_⟩
  rcases h.2 with h2 | ⟨g, cap, cur, rfl, h1, h2, h3⟩
  · exact .inl h2
  · exact .inr ⟨g, cap, cur, rfl, h1, (hb g rfl).trans h2, h3⟩
theorem owns_lt {w : World} {B : Nat} {e : TypeId} {z : Nat} {v : Value} {n : Nat} {xs : List Value} (h : w.ownsRow B e z v n xs) : ∀ k, v.ownBlock = some k → B ≤ k ∧ k < w.heap.size := by
  intro k hk
  rcases h.2 with ⟨rfl, _⟩ | ⟨g, cap, cur, rfl, h1, h2, h3⟩
  · cases hk
  · cases hk
    exact ⟨h1, (Array.getElem?_eq_some_iff.1 h2).1⟩
theorem RowP.keep {w w' : World} {B : Nat} {v : Value} {L : List (Int × Int)} (h : RowP w B v L) (hb : Below w.heap.size w w') : RowP w' B v L := owns_keep h (fun k hk => hb.block k (owns_lt h k hk).2)
theorem RowP.chg {w w' : World} {B : Nat} {v : Value} {L : List (Int × Int)} (h : RowP w B v L) {M : Nat → Prop} (hc : Chg M w w') (hn : ∀ k, v.ownBlock = some k → ¬ M k) : RowP w' B v L := owns_keep h (fun k hk => hc.block k (owns_lt h k hk).2 (hn k hk))
theorem RowP.nil (w : World) (B : Nat) : RowP w B (.slice none 0 0) [] := ⟨rfl, .inl ⟨rfl, rfl⟩⟩
theorem RowP.shapeN {w : World} {B : Nat} {v : Value} {L : List (Int × Int)} (h : RowP w B v L) : ∃ a n cap, v = .slice a n cap ∧ n = L.length := by
  rcases h.2 with ⟨rfl, h2⟩ | ⟨g, cap, cur, rfl, _⟩
  · exact ⟨none, 0, 0, rfl, h2.symm⟩
  · exact ⟨_, _, cap, rfl, rfl⟩
theorem info_sp : (Tryz.prog.info? 47).map (fun i => (i.zero, i.size, i.bytes)) = some (some (.agg #[.int .i64 0, .int .i64 0]), 2, 16) := by kernel_rfl
section
variable {w : World} {ops : Array Oper} {rest : List Oper} {o : Oper} {a : Act} {Q : Exit → Act → World → Prop} {B X : Nat} {v : Value} {L : List (Int × Int)}
theorem wpList_appP (hg : o.guard = none) (s y : Operand) (hop : o.op = Op.call { callee := Callee.builtin Builtin.append, args := #[s, y], argTypes := #[45, 45] })
    (hs : a.eval s = v) (hx : a.eval y = .slice (some ⟨X, 0, none⟩) 1 1) (hown : RowP w B v L) (p : Int × Int) (hc : w.rangeAt X 0 (spL p)) (hl : L.length < 1000000) (hB : B ≤ w.heap.size)
    (hK : ∀ v' w', RowP w' B v' (L ++ [p]) → w.grownBy w' v.ownBlock → (v'.ownBlock = v.ownBlock ∨ v'.ownBlock = some w.heap.size) → wpList Tryz.prog ops Q rest (a.put o.dst v') w') : wpList Tryz.prog ops Q (o :: rest) a w := by
  obtain ⟨i0, hi, hz0, hz1, hz2⟩ := info_parts info_sp
  refine wpList_append_own_at _ hg s y 45 hop B 47 i0 _ 2 16 Tryz.underlying45 hi hz0 hz1 hz2 rfl (by decide) v L.length (flP L) hs hown ⟨X, 0, none⟩ 1 1 (spL p) hx rfl (fun j u hj => by rw [Addr.add_mid, Nat.zero_add]; have := hc j u hj; rwa [Nat.zero_add] at this) (fun u hu => by simp at hu; rcases hu with rfl | rfl <;> rfl) (by unfold maxLen; omega) (by omega) hB ?_
  intro v' w' h1 h2 _ h4
  exact hK v' w' (by unfold RowP; rw [flP_app, List.length_append]; simpa [flP] using h1) h2 h4
end
end Go.Proofs.YtnpdkojhlgchlaaGreatDoor
