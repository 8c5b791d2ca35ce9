/- What an iterator of a table goes over: the places and the things that were copied; the blocks that hold them; how they are carried along. -/
import Derived.Test.YtmfkeobjbcinpaaApp7
import Derived.Stop.RegionWithIn
import Derived.Deep.RegionLaw
namespace Go.Proofs.Ytmfkeobjbcinpaa
open Go.RowKit Go.Shelf Go.Sort Go.Maps
set_option linter.unusedVariables false

/-- Does the place lie in the area? -/
def hasA (t l b r : Int) (s : Sp) : Bool := hasB t l b r s.1 s.2
def SpotAt (w : World) (g j : Nat) (s : Sp) : Prop := w.cell? ⟨g, j * 2, none⟩ = some (.int .i64 s.1) ∧ w.cell? ⟨g, j * 2 + 1, none⟩ = some (.int .i64 s.2)
/-- The slice's cells hold the places, in one of the blocks. -/
def SpotsIn (w : World) (bs : List Nat) (a : Option Addr) (K : List Sp) : Prop := K = [] ∨ ∃ g, a = some ⟨g, 0, none⟩ ∧ g ∈ bs ∧ ∀ j (h : j < K.length), SpotAt w g j K[j]
/-- The slice's cells hold the values, in one of the blocks. -/
def ThingsIn (w : World) (bs : List Nat) (a : Option Addr) (X : List Value) : Prop := X = [] ∨ ∃ g, a = some ⟨g, 0, none⟩ ∧ g ∈ bs ∧ ∀ j (h : j < X.length), w.cell? ⟨g, j, none⟩ = some X[j]
/-- The blocks lie as they lay. -/
def KS (bs : List Nat) (W W' : World) : Prop := W.heap.size ≤ W'.heap.size ∧ ∀ k ∈ bs, k < W.heap.size → W'.heap[k]? = W.heap[k]?
theorem KS.refl (bs : List Nat) (W : World) : KS bs W W := ⟨Nat.le_refl _, fun _ _ _ => rfl⟩
theorem KS_t {bs : List Nat} {X Y Z : World} (h : KS bs X Y) (k : KS bs Y Z) : KS bs X Z := ⟨Nat.le_trans h.1 k.1, fun i hi hl => (k.2 i hi (Nat.lt_of_lt_of_le hl h.1)).trans (h.2 i hi hl)⟩
theorem KS_b {bs : List Nat} {w : World} (hb : ∀ k ∈ bs, k < w.heap.size) (W : World) (l : Nat) (o o' : Obj) (hl : w.heap.size ≤ l) (_ : W.heap[l]? = some o) (_ : o.isCells = false) (_ : o.isWalk = false) : KS bs W (W.putObj l o') :=
  ⟨by simp, fun k hk _ => World.putObj_heap_other (by have := hb k hk; omega)⟩
theorem KS.alloc (bs : List Nat) (W : World) (o : Obj) : KS bs W (W.alloc o) := ⟨by simp, fun k _ hl => Below.heap_alloc W o k hl⟩
theorem KS.of_below {bs : List Nat} {W W' : World} (h : Below W.heap.size W W') : KS bs W W' := ⟨h.size, fun k _ hl => h.block k hl⟩
theorem KS.of_grown {bs : List Nat} {W W' : World} {row : Option Nat} (hg : W.grownBy W' row) (hr : ∀ k ∈ bs, some k ≠ row) : KS bs W W' := ⟨hg.size, fun k hk hl => hg.block k hl (hr k hk)⟩
theorem SpotAt.same {w w' : World} {g j : Nat} {s : Sp} (h : SpotAt w g j s) (hb : w'.heap[g]? = w.heap[g]?) : SpotAt w' g j s := ⟨(World.cell?_of_block (a := ⟨g, j * 2, none⟩) hb).trans h.1, (World.cell?_of_block (a := ⟨g, j * 2 + 1, none⟩) hb).trans h.2⟩
theorem SpotAt.keep {w w' : World} {g j : Nat} {s : Sp} (h : SpotAt w g j s) (hb : Below w.heap.size w w') : SpotAt w' g j s := ⟨keep1 hb h.1, keep1 hb h.2⟩
theorem SpotAt.alloc {w : World} {g j : Nat} {s : Sp} (h : SpotAt w g j s) (o : Obj) : SpotAt (w.alloc o) g j s := h.keep ((Below.refl _ _).alloc (Nat.le_refl _) _)
theorem SpotAt.lt {w : World} {g j : Nat} {s : Sp} (h : SpotAt w g j s) : g < w.heap.size := block_lt_of_cell h.1
theorem SpotsIn.keep {w w' : World} {bs : List Nat} {a : Option Addr} {K : List Sp} (h : SpotsIn w bs a K) (hb : Below w.heap.size w w') : SpotsIn w' bs a K := by
  rcases h with h | ⟨g, e, m, h⟩
  · exact .inl h
  · exact .inr ⟨g, e, m, fun j hj => (h j hj).keep hb⟩
/-- The value is an iterator over the places and the things. -/
def ItAt (w : World) (f : Nat) (TS : TypeId) (v : Value) (M : List (Sp × Value)) (bs : List Nat) : Prop :=
  (∀ k ∈ bs, k < w.heap.size) ∧ ∃ Bp Bq a cap a' cap', v = .func (.func f) #[] #[.pointer (some ⟨Bp, 0, none⟩), .pointer (some ⟨Bq, 0, none⟩)] ∧ Bp ∈ bs ∧ Bq ∈ bs ∧ Blk w Bp #[.slice a M.length cap] 28 ∧ Blk w Bq #[.slice a' M.length cap'] TS ∧
    SpotsIn w bs a (keysT M) ∧ ThingsIn w bs a' (M.map (·.2))
theorem ItAt.same {w w' : World} {f : Nat} {TS : TypeId} {v : Value} {M : List (Sp × Value)} {bs : List Nat} (h : ItAt w f TS v M bs) (hk : KS bs w w') : ItAt w' f TS v M bs := by
  obtain ⟨h0, Bp, Bq, a, cap, a', cap', e, m1, m2, b1, b2, s1, s2⟩ := h
  have hs : ∀ k ∈ bs, w'.heap[k]? = w.heap[k]? := fun k hk' => hk.2 k hk' (h0 k hk')
  refine ⟨fun k hk' => Nat.lt_of_lt_of_le (h0 k hk') hk.1, Bp, Bq, a, cap, a', cap', e, m1, m2, (hs _ m1).trans b1, (hs _ m2).trans b2, ?_, ?_⟩
  · rcases s1 with s | ⟨g, ea, mg, s⟩
    · exact .inl s
    · exact .inr ⟨g, ea, mg, fun j hj => (s j hj).same (hs g mg)⟩
  · rcases s2 with s | ⟨g, ea, mg, s⟩
    · exact .inl s
    · exact .inr ⟨g, ea, mg, fun j hj => (World.cell?_of_block (a := ⟨g, j, none⟩) (hs g mg)).trans (s j hj)⟩
theorem ItAt.keep {w w' : World} {f : Nat} {TS : TypeId} {v : Value} {M : List (Sp × Value)} {bs : List Nat} (h : ItAt w f TS v M bs) (hb : Below w.heap.size w w') : ItAt w' f TS v M bs := h.same (KS.of_below hb)
/-- A row of places as the cells of its slice. -/
theorem row_spots {w : World} {B : Nat} {v : Value} {K : List Sp} (h : RowS w B v K) : ∃ a c bs, v = .slice a K.length c ∧ SpotsIn w bs a K ∧ (∀ k ∈ bs, B ≤ k ∧ k < w.heap.size ∧ v.ownBlock = some k) := by
  rcases h.2 with ⟨rfl, h0⟩ | ⟨g, cap, cur, rfl, hB, hg, h1, h2, h3, h4⟩
  · exact ⟨none, 0, [], by rw [h0], .inl (List.eq_nil_of_length_eq_zero h0), by simp⟩
  · refine ⟨_, _, [g], rfl, .inr ⟨g, rfl, by simp, fun j hj => ?_⟩, fun k hk => by simp at hk; subst hk; exact ⟨hB, (Array.getElem?_eq_some_iff.1 hg).1, rfl⟩⟩
    have hc := h.cells (g := g) rfl
    obtain ⟨e1, e2⟩ := flatS_get K j hj
    have ha : ∀ j, (⟨g, 0, none⟩ : Addr).add j = ⟨g, j, none⟩ := fun j => by unfold Addr.add; split <;> simp_all
    have c1 := hc _ _ e1
    have c2 := hc _ _ e2
    rw [ha] at c1 c2
    exact ⟨c1, c2⟩
theorem attach_take {α : Type} (M : List α) (i : Nat) (h : i < M.length) : M.attach.take (i + 1) = M.attach.take i ++ [⟨M[i], List.getElem_mem h⟩] := by
  rw [List.take_succ_eq_append_getElem (by simpa using h), List.getElem_attach]
theorem attach_len {α : Type} (M : List α) (i : Nat) (h : i ≤ M.length) : (M.attach.take i).length = i := by simp [h]
end Go.Proofs.Ytmfkeobjbcinpaa
