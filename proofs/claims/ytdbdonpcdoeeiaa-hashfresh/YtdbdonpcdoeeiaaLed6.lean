/- Whose memory is whose: rows of one's own by their blocks, lists of such rows, what writing into one leaves of the others. -/
import Derived.Test.YtdbdonpcdoeeiaaKit6b
namespace Go.Proofs.Ytdbdonpcdoeeiaa
open Go.RowKit Go.Sort
set_option linter.unusedVariables false

abbrev sl (g n c : Nat) : Value := .slice (some ⟨g, 0, none⟩) n c
/-- Block g is a row of c cells of type e, none frozen; its first cells hold xs. -/
def RB (w : World) (e g c : Nat) (xs : List Value) : Prop := w.ownsRow g e 1 (sl g xs.length c) xs.length xs
theorem RB.get {w : World} {e g c : Nat} {xs : List Value} (h : RB w e g c xs) : ∃ cur, w.heap[g]? = some (.cells cur e (0, 0)) ∧ cur.size = c ∧ xs.length ≤ c ∧ c ≤ maxLen ∧ cur.toList.take xs.length = xs := by
  rcases h.2 with ⟨h, _⟩ | ⟨g', cap, cur, hv, _, hg, h1, h2, h3, h4⟩
  · cases h
  · cases hv
    exact ⟨cur, hg, by omega, h1, h2, by simpa using h4⟩
theorem RB.mk {w : World} {e g c : Nat} {xs : List Value} {cur : Array Value} (hg : w.heap[g]? = some (.cells cur e (0, 0))) (hs : cur.size = c) (hx : xs.length ≤ c) (hm : c ≤ maxLen) (ht : cur.toList.take xs.length = xs) : RB w e g c xs :=
  ⟨by simp, .inr ⟨g, c, cur, rfl, Nat.le_refl _, hg, hx, hm, by omega, by simpa using ht⟩⟩
theorem RB.lt {w : World} {e g c : Nat} {xs : List Value} (h : RB w e g c xs) : g < w.heap.size := by
  obtain ⟨cur, hg, _⟩ := h.get
  exact (Array.getElem?_eq_some_iff.1 hg).1
theorem RB.le {w : World} {e g c : Nat} {xs : List Value} (h : RB w e g c xs) : xs.length ≤ c ∧ c ≤ maxLen := by
  obtain ⟨cur, _, _, h1, h2, _⟩ := h.get
  exact ⟨h1, h2⟩
theorem RB.kept {w w' : World} {e g c : Nat} {xs : List Value} {row : Option Nat} (h : RB w e g c xs) (hg : w.grownBy w' row) (hne : row ≠ some g) : RB w' e g c xs :=
  World.ownsRow.kept h hg (.inr (fun e => hne e.symm))
theorem grown_below {w w' : World} (hb : Below w.heap.size w w') : w.grownBy w' none := ⟨hb.os, hb.tape, hb.output, hb.size, fun k hk _ => hb.block k hk⟩
theorem RB.keep {w w' : World} {e g c : Nat} {xs : List Value} (h : RB w e g c xs) (hb : Below w.heap.size w w') : RB w' e g c xs := h.kept (grown_below hb) (by simp)
theorem addr_at (g j : Nat) : (⟨g, 0, none⟩ : Addr).add j = ⟨g, j, none⟩ := by unfold Addr.add; split <;> simp_all
theorem RB.cell {w : World} {e g c : Nat} {xs : List Value} (h : RB w e g c xs) {j : Nat} {u : Value} (hu : xs[j]? = some u) : w.cell? ⟨g, j, none⟩ = some u := by
  have := World.ownsRow.cells h (g := g) rfl j u hu
  rwa [addr_at] at this
theorem RB.frozen {w : World} {e g c : Nat} {xs : List Value} (h : RB w e g c xs) (j : Nat) : w.frozen? ⟨g, j, none⟩ = false := by
  obtain ⟨cur, hg, _⟩ := h.get
  simp [World.frozen?, hg]
theorem grown_set (w : World) (g k : Nat) (u : Value) : w.grownBy (w.setCell ⟨g, k, none⟩ u) (some g) :=
  ⟨rfl, rfl, rfl, by simp, fun j _ hj => Below.heap_setCell _ _ _ j (fun e => hj (by rw [e]))⟩
theorem grown_trans {w w' w'' : World} {row : Option Nat} (h : w.grownBy w' row) (h' : w'.grownBy w'' row) : w.grownBy w'' row :=
  ⟨h'.os.trans h.os, h'.tape.trans h.tape, h'.output.trans h.output, Nat.le_trans h.size h'.size, fun k hk hne => (h'.block k (Nat.lt_of_lt_of_le hk h.size) hne).trans (h.block k hk hne)⟩
theorem grown_after {w w' : World} {row : Option Nat} {o : Obj} (h : (w.alloc o).grownBy w' row) : w.grownBy w' row := grown_trans (World.grownBy_alloc w o row) h
theorem RB.set {w : World} {e g c : Nat} {xs : List Value} (h : RB w e g c xs) (k : Nat) (u : Value) (hk : k < xs.length) : RB (w.setCell ⟨g, k, none⟩ u) e g c (xs.set k u) := by
  obtain ⟨cur, hg, hs, hx, hm, ht⟩ := h.get
  have hlt := (Array.getElem?_eq_some_iff.1 hg).1
  refine RB.mk (cur := cur.setIfInBounds k u) ?_ (by simpa using hs) (by simpa using hx) hm ?_
  · have hget := (Array.getElem?_eq_some_iff.1 hg).2
    unfold World.setCell
    rw [Array.getElem?_eq_getElem (by simpa using hlt), Array.getElem_modify, if_pos rfl, hget]
    rfl
  · rw [List.length_set, Array.toList_setIfInBounds, List.take_set, ht]
/-- Rows of unlike types are unlike. -/
theorem type_ne {w : World} {e e' g c B n : Nat} {v : Value} {xs ys : List Value} (h : RB w e g c xs) (h' : w.ownsRow B e' 1 v n ys) (hne : e ≠ e') : v.ownBlock ≠ some g := by
  obtain ⟨cur, hg, _⟩ := h.get
  rcases h'.2 with ⟨rfl, _⟩ | ⟨g', c', cur', rfl, _, hg', _⟩
  · simp [Value.ownBlock]
  · intro e0
    have : g' = g := by simpa [Value.ownBlock] using e0
    subst this
    rw [hg'] at hg
    cases hg
    exact hne rfl
/-- Rows whose first cells are unlike are unlike. -/
theorem head_ne {w : World} {e B n B' n' : Nat} {v v' x y : Value} {xs ys : List Value} (h : w.ownsRow B e 1 v n xs) (h' : w.ownsRow B' e 1 v' n' ys) (hx : xs[0]? = some x) (hy : ys[0]? = some y) (hxy : x ≠ y) : v.ownBlock = none ∨ v.ownBlock ≠ v'.ownBlock := by
  cases hv : v.ownBlock with
  | none => exact .inl rfl
  | some G =>
    refine .inr fun e0 => hxy ?_
    have c1 := World.ownsRow.cells h hv 0 x hx
    have c2 := World.ownsRow.cells h' e0.symm 0 y hy
    rw [c1] at c2
    exact Option.some.inj c2
/-- Bytes that a call answers: their row. -/
theorem own_row {w : World} {B : Nat} {v : Value} {L : List UInt8} (h : Own w B v L) (hl : 1 ≤ L.length) : ∃ g c, v = sl g L.length c ∧ B ≤ g ∧ RB w 5 g c (vs L) ∧ L.length ≤ c ∧ c ≤ maxLen := by
  rcases h.2 with ⟨_, hn⟩ | ⟨g, cap, cur, hv, hb, hg, hc, hm, hs, ht⟩
  · omega
  · exact ⟨g, cap, hv, hb, RB.mk hg (by omega) (by rw [vs_len]; exact hc) hm (by rw [vs_len]; simpa using ht), hc, hm⟩
theorem row_own {w : World} {g c : Nat} {L : List UInt8} (h : RB w 5 g c (vs L)) : Own w g (sl g L.length c) L := by
  have h' : w.ownsRow g 5 1 (sl g (vs L).length c) (vs L).length (vs L) := h
  rw [vs_len] at h'
  exact h'
/-- m times the byte of a place. -/
def fil (j m : Nat) : List Value := List.replicate m (.int .u8 ((j : Int) % 256))
theorem fil_len (j m : Nat) : (fil j m).length = m := by simp [fil]
theorem fil_snoc (j m : Nat) : fil j m ++ [.int .u8 ((j : Int) % 256)] = fil j (m + 1) := by unfold fil; rw [List.replicate_succ']
theorem fil_get (j m k : Nat) (h : k < m) : (fil j m)[k]? = some (.int .u8 ((j : Int) % 256)) := by simp [fil, h]
/-- A row that is written over from its head. -/
def over (j k : Nat) (xs : List Value) : List Value := fil j k ++ xs.drop k
theorem over_len (j k : Nat) (xs : List Value) (h : k ≤ xs.length) : (over j k xs).length = xs.length := by unfold over; rw [List.length_append, fil_len, List.length_drop]; omega
theorem over_0 (j : Nat) (xs : List Value) : over j 0 xs = xs := by simp [over, fil]
theorem over_all (j : Nat) (xs : List Value) : over j xs.length xs = fil j xs.length := by simp [over]
theorem over_step (j k : Nat) (xs : List Value) (h : k < xs.length) : (over j k xs).set k (.int .u8 ((j : Int) % 256)) = over j (k + 1) xs := by
  unfold over
  rw [List.set_append_right _ _ (by rw [fil_len]; exact Nat.le_refl _), fil_len, Nat.sub_self, ← fil_snoc, List.append_assoc]
  congr 1
  rw [List.drop_eq_getElem_cons h]
  rfl
/-- Lists of rows, of texts. -/
def lvs (g n c : Nat → Nat) (N : Nat) : List Value := (List.range N).map fun j => sl (g j) (n j) (c j)
def wvs (L : Nat → List UInt8) (N : Nat) : List Value := (List.range N).map fun j => .string ⟨(L j).toArray⟩
theorem lvs_len (g n c : Nat → Nat) (N : Nat) : (lvs g n c N).length = N := by simp [lvs]
theorem wvs_len (L : Nat → List UInt8) (N : Nat) : (wvs L N).length = N := by simp [wvs]
theorem lvs_get (g n c : Nat → Nat) (N j : Nat) (h : j < N) : (lvs g n c N)[j]? = some (sl (g j) (n j) (c j)) := by simp [lvs, h]
theorem wvs_get (L : Nat → List UInt8) (N j : Nat) (h : j < N) : (wvs L N)[j]? = some (.string ⟨(L j).toArray⟩) := by simp [wvs, h]
def upd {α : Type} (f : Nat → α) (n : Nat) (x : α) : Nat → α := fun j => if j = n then x else f j
theorem upd_at {α : Type} (f : Nat → α) (n : Nat) (x : α) : upd f n x n = x := if_pos rfl
theorem upd_ne {α : Type} (f : Nat → α) (n : Nat) (x : α) {j : Nat} (h : j ≠ n) : upd f n x j = f j := if_neg h
theorem lvs_upd (g n c : Nat → Nat) (N x y z : Nat) : lvs (upd g N x) (upd n N y) (upd c N z) (N + 1) = lvs g n c N ++ [sl x y z] := by
  unfold lvs
  rw [List.range_succ, List.map_append, List.map_singleton, upd_at, upd_at, upd_at]
  congr 1
  apply List.map_congr_left
  intro j hj
  have : j ≠ N := by have := List.mem_range.1 hj; omega
  rw [upd_ne _ _ _ this, upd_ne _ _ _ this, upd_ne _ _ _ this]
theorem wvs_upd (L : Nat → List UInt8) (N : Nat) (x : List UInt8) : wvs (upd L N x) (N + 1) = wvs L N ++ [.string ⟨x.toArray⟩] := by
  unfold wvs
  rw [List.range_succ, List.map_append, List.map_singleton, upd_at]
  congr 1
  apply List.map_congr_left
  intro j hj
  have : j ≠ N := by have := List.mem_range.1 hj; omega
  rw [upd_ne _ _ _ this]
theorem lvs_set (g n c : Nat → Nat) (N i y : Nat) (hi : i < N) : (lvs g n c N).set i (sl (g i) y (c i)) = lvs g (upd n i y) c N := by
  apply List.ext_getElem?
  intro j
  by_cases hj : j < N
  · rw [lvs_get _ _ _ _ _ hj, List.getElem?_set]
    by_cases e : i = j
    · subst e
      rw [if_pos rfl, if_pos (by rw [lvs_len]; exact hi), upd_at]
    · rw [if_neg e, lvs_get _ _ _ _ _ hj, upd_ne _ _ _ (fun h => e h.symm)]
  · rw [List.getElem?_eq_none (by rw [List.length_set, lvs_len]; omega), List.getElem?_eq_none (by rw [lvs_len]; omega)]
/-- What is known of the rows behind N rounds: those that are written full and those that stay, each a block of its own, later ones behind earlier ones. -/
def Led (W w : World) (N : Nat) (gl cl nl gq cq : Nat → Nat) (L : Nat → List UInt8) : Prop := ∀ j, j < N →
  (W.heap.size ≤ gl j ∧ gl j < gq j ∧ (∀ i, i < j → gq i < gl j) ∧ 1 ≤ (L j).length ∧ (L j).length ≤ 32768 ∧ (L j).length ≤ nl j ∧ nl j ≤ 102768) ∧ RB w 5 (gl j) (cl j) (fil j (nl j)) ∧ RB w 5 (gq j) (cq j) (vs (L j))
theorem Led.kept {W w w' : World} {N : Nat} {gl cl nl gq cq : Nat → Nat} {L : Nat → List UInt8} {row : Option Nat} (h : Led W w N gl cl nl gq cq L) (hg : w.grownBy w' row) (hne : ∀ j, j < N → row ≠ some (gl j) ∧ row ≠ some (gq j)) : Led W w' N gl cl nl gq cq L := fun j hj => by
  obtain ⟨h1, h2, h3⟩ := h j hj
  exact ⟨h1, h2.kept hg (hne j hj).1, h3.kept hg (hne j hj).2⟩
/-- Unlike places have unlike rows. -/
theorem Led.apart {W w : World} {N : Nat} {gl cl nl gq cq : Nat → Nat} {L : Nat → List UInt8} (h : Led W w N gl cl nl gq cq L) {i j : Nat} (hi : i < N) (hj : j < N) : gl i ≠ gq j ∧ (i ≠ j → gl i ≠ gl j) := by
  obtain ⟨⟨_, a2, a3, _⟩, _⟩ := h i hi
  obtain ⟨⟨_, b2, b3, _⟩, _⟩ := h j hj
  rcases Nat.lt_trichotomy i j with c | c | c
  · have := b3 i c; omega
  · subst c; omega
  · have := a3 j c; omega
def St (W w : World) (N : Nat) (s3 s4 s5 : Value) (gl cl nl gq cq : Nat → Nat) (L : Nat → List UInt8) : Prop :=
  w.ownsRow W.heap.size 28 1 s3 N (lvs gl nl cl N) ∧ w.ownsRow W.heap.size 28 1 s4 N (lvs gq (fun j => (L j).length) cq N) ∧ w.ownsRow W.heap.size 9 1 s5 N (wvs L N) ∧ Led W w N gl cl nl gq cq L ∧ Below W.heap.size W w ∧ (N = 0 → s4 = .slice none 0 0)
theorem St.below {W w w' : World} {N : Nat} {s3 s4 s5 : Value} {gl cl nl gq cq : Nat → Nat} {L : Nat → List UInt8} (h : St W w N s3 s4 s5 gl cl nl gq cq L) (hb : Below w.heap.size w w') : St W w' N s3 s4 s5 gl cl nl gq cq L := by
  obtain ⟨h1, h2, h3, h4, h5, h6⟩ := h
  have hg := grown_below hb
  have k : ∀ v : Value, v.ownBlock = none ∨ v.ownBlock ≠ none := fun v => Classical.em _
  exact ⟨h1.kept hg (k s3), h2.kept hg (k s4), h3.kept hg (k s5), h4.kept hg (by simp), next h5 hb, h6⟩
/-- A row of bytes that is not among them may be written. -/
theorem St.other {W w w' : World} {N g c : Nat} {s3 s4 s5 : Value} {gl cl nl gq cq : Nat → Nat} {L : Nat → List UInt8} {xs : List Value} (h : St W w N s3 s4 s5 gl cl nl gq cq L) (hr : RB w 5 g c xs) (hB : W.heap.size ≤ g) (hf : ∀ j, j < N → gq j < g) (hg : w.grownBy w' (some g)) : St W w' N s3 s4 s5 gl cl nl gq cq L := by
  obtain ⟨h1, h2, h3, h4, h5, h6⟩ := h
  refine ⟨h1.kept hg (.inr (type_ne hr h1 (by decide))), h2.kept hg (.inr (type_ne hr h2 (by decide))), h3.kept hg (.inr (type_ne hr h3 (by decide))), h4.kept hg (fun j hj => ?_), h5.grown hg h5.size (fun k e => by cases e; exact hB), h6⟩
  have a := hf j hj
  have b := (h4 j hj).1.2.1
  constructor <;> intro e <;> cases e <;> omega
end Go.Proofs.Ytdbdonpcdoeeiaa
