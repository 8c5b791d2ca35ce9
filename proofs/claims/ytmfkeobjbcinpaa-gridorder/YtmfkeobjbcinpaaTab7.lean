/- A map from places of the grid as a list in row order: what looking up, laying, taking away, counting and going over do to it. -/
import Derived.Test.YtmfkeobjbcinpaaKit3
import Derived.Test.YtmfkeobjbcinpaaMath7
import Derived.Maps.RangeWalk
import Derived.DeepKeys5
namespace Go.Proofs.Ytmfkeobjbcinpaa
open Go.RowKit Go.Maps Go.MapKept Go.ChangeMaps
set_option linter.unusedVariables false

theorem laidOut : laidOutB Try.prog = true := by kernel_rfl
theorem rowS : (35 : TypeId) < Try.prog.types.size := of_decide_eq_true (by kernel_rfl)
theorem deepS : Try.prog.keyTypeAt 2 35 = true := by kernel_rfl
theorem three : 2 + 1 ≤ 10000 := by decide
theorem keyed : Keyed Try.prog 35 := Keyed.of_law (deep_law_laid laidOut (m := 2) three rowS deepS (by rw [Try.underlying35]))
def wfI (x : Int) : Prop := -9223372036854775808 ≤ x ∧ x ≤ 9223372036854775807
theorem wf_lit {x : Int} (h : wfI x) : (Lit.int .i64 x).wf = true := WalkArith.wf_i64 ⟨h.1, h.2⟩
theorem mayB_iff {r c : Int} : mayB r c = true ↔ (0 ≤ r ∧ r < 65536 ∧ 0 ≤ c ∧ c < 702) := by unfold mayB; exact decide_eq_true_iff
theorem may_wf {r c : Int} (h : mayB r c = true) : wfI r ∧ wfI c := by have := mayB_iff.1 h; unfold wfI; omega
theorem keyTypeS : Try.prog.keyType 35 = true := by kernel_rfl
theorem cellsOfS : Try.prog.cellsOf 35 = 2 := by kernel_rfl
theorem cellsOfI : Try.prog.cellsOf 3 = 1 := by kernel_rfl
theorem typesS : ∃ m, Try.prog.types.size = m + 1 := ⟨Try.prog.types.size - 1, by have : 0 < Try.prog.types.size := of_decide_eq_true (by kernel_rfl); omega⟩
/-- What a place reads as, as a key. -/
theorem key_spot {r c : Int} (hr : wfI r) (hc : wfI c) : ∃ l, keyOf Try.prog 35 (spotV r c) = some l := by
  refine ⟨.string (keyBytes [.int .i64 r, .int .i64 c]), ?_⟩
  have wa := wf_lit hr
  have wb := wf_lit hc
  obtain ⟨m, hm⟩ := typesS
  unfold keyOf
  simp only [Try.underlying35]
  rw [if_pos (by simp [keyTypeS, Value.formed, Try.underlying35, cellsOfS]), hm]
  unfold Program.keyLits
  simp only [Try.underlying35, Value.cells]
  rw [if_pos (by rw [cellsOfS]; exact ⟨rfl, by simp⟩)]
  simp [cellsOfI, Program.keyLits, Try.underlying3, wa, wb]

/-- The place that a key is. -/
def unSpot : Value → Sp
  | .agg cs => match cs.toList with
    | [.int _ r, .int _ c] => (r, c)
    | _ => (0, 0)
  | _ => (0, 0)
theorem unSpot_spot (r c : Int) : unSpot (spotV r c) = (r, c) := rfl
theorem spot_inj {r c r' c' : Int} (h : spotV r c = spotV r' c') : (r, c) = (r', c') := by rw [← unSpot_spot r c, h, unSpot_spot]
def mk2 (p : Sp × Value) : Value × Value := (spotV p.1.1 p.1.2, p.2)

/-- The entries of a map are what the list holds. -/
structure Raw (es : Array MapEntry) (clock : Nat) (L : Tb Value) : Prop where
  stamped : Stamped es clock
  perm : (es.toList.map fun e => (e.key, e.val)).Perm (L.map mk2)
  sorted : SortT L
  may : ∀ p ∈ L, mayB p.1.1 p.1.2 = true

section
variable {es : Array MapEntry} {clock : Nat} {L : Tb Value} {w : World} {b r0 : Nat} {r c : Int}
theorem Raw.entry (h : Raw es clock L) {x : MapEntry} (hx : x ∈ es.toList) : ∃ p ∈ L, x.key = spotV p.1.1 p.1.2 ∧ x.val = p.2 := by
  have h1 : (x.key, x.val) ∈ L.map mk2 := h.perm.mem_iff.1 (List.mem_map.2 ⟨x, hx, rfl⟩)
  obtain ⟨p, hp, e⟩ := List.mem_map.1 h1
  unfold mk2 at e
  simp only [Prod.mk.injEq] at e
  exact ⟨p, hp, e.1.symm, e.2.symm⟩
theorem Raw.there (h : Raw es clock L) {p : Sp × Value} (hp : p ∈ L) : ∃ x ∈ es.toList, x.key = spotV p.1.1 p.1.2 ∧ x.val = p.2 := by
  have h1 : mk2 p ∈ es.toList.map fun e => (e.key, e.val) := h.perm.mem_iff.2 (List.mem_map.2 ⟨p, hp, rfl⟩)
  obtain ⟨x, hx, e⟩ := List.mem_map.1 h1
  unfold mk2 at e
  simp only [Prod.mk.injEq] at e
  exact ⟨x, hx, e.1, e.2⟩
theorem Raw.keys (h : Raw es clock L) : ∀ e ∈ es.toList, ∃ l, keyOf Try.prog 35 e.key = some l := fun x hx => by
  obtain ⟨p, hp, e, _⟩ := h.entry hx
  rw [e]
  exact key_spot (may_wf (h.may p hp)).1 (may_wf (h.may p hp)).2
theorem Raw.size (h : Raw es clock L) : es.size = L.length := by have := h.perm.length_eq; simpa using this
theorem Raw.find (h : Raw es clock L) (w : World) (hr : wfI r) (hc : wfI c) :
    (getT L (r, c) = none ∧ (Instr.findKey 35 (spotV r c) es.toList).run Try.prog w = .ok none w ∧ ∀ e ∈ es.toList, e.key ≠ spotV r c) ∨
    ∃ j e, getT L (r, c) = some e.val ∧ (Instr.findKey 35 (spotV r c) es.toList).run Try.prog w = .ok (some (j, e.val)) w ∧ es.toList[j]? = some e ∧ e.key = spotV r c := by
  obtain ⟨l, hl⟩ := key_spot hr hc
  rcases keyed.find w hl es.toList h.keys with ⟨h1, h2⟩ | ⟨j, e, h1, h2, h3⟩
  · refine .inl ⟨getT_none_of (fun p hp e => ?_), h1, h2⟩
    obtain ⟨x, hx, e1, _⟩ := h.there hp
    exact h2 x hx (by rw [e1, e])
  · refine .inr ⟨j, e, ?_, h1, h2, h3⟩
    obtain ⟨p, hp, e1, e2⟩ := h.entry (List.mem_of_getElem? h2)
    rw [e2]
    refine getT_mem h.sorted ?_
    have : (r, c) = p.1 := spot_inj (h3.symm.trans e1)
    rw [this]
    exact hp

/-- Block b is a map that holds what the list says. -/
def Tab (w : World) (b : Nat) (L : Tb Value) : Prop := ∃ es clock, w.heap[b]? = some (.map es clock) ∧ Raw es clock L
theorem Tab.lt (h : Tab w b L) : b < w.heap.size := by obtain ⟨es, clock, hb, _⟩ := h; exact (Array.getElem?_eq_some_iff.1 hb).1
theorem Tab.sorted (h : Tab w b L) : SortT L := by obtain ⟨es, clock, hb, F⟩ := h; exact F.sorted
theorem Tab.may (h : Tab w b L) : ∀ p ∈ L, mayB p.1.1 p.1.2 = true := by obtain ⟨es, clock, hb, F⟩ := h; exact F.may
theorem Tab.kept {w' : World} {row : Option Nat} (h : Tab w b L) (hg : w.grownBy w' row) (hne : some b ≠ row) : Tab w' b L := by
  have hlt := h.lt
  obtain ⟨es, clock, hb, F⟩ := h
  exact ⟨es, clock, (hg.block b hlt hne).trans hb, F⟩
theorem Tab.keep {w' : World} (h : Tab w b L) (hb : Below w.heap.size w w') : Tab w' b L := by
  have hlt := h.lt
  obtain ⟨es, clock, h1, F⟩ := h
  exact ⟨es, clock, (hb.block b hlt).trans h1, F⟩
theorem Tab.alloc (h : Tab w b L) (o : Obj) : Tab (w.alloc o) b L := h.keep ((Below.refl _ _).alloc (Nat.le_refl _) _)
theorem Tab.drew (h : Tab w b L) : Tab w.drew b L := h
theorem Tab.drewN (h : Tab w b L) (n : Nat) : Tab (w.drewN n) b L := h
theorem Tab.new (w : World) : Tab (w.alloc (.map #[] 0)) w.heap.size [] := ⟨#[], 0, (MapKept.heap_alloc w _).1, ⟨stamped_empty 0, by simp, List.Pairwise.nil, by simp⟩⟩

theorem Tab.look (ok : Bool) {t e : TypeId} {z : Value} (ht : Try.prog.underlying t = some (.map 35 e)) (hz : (zeroValue e).run Try.prog w = .ok z w) (h : Tab w b L) (hr : wfI r) (hc : wfI c) :
    (Instr.lookup t (.map (some b)) (spotV r c) ok).run Try.prog w = .ok (if ok then .tuple #[(getT L (r, c)).getD z, .bool (hasT L (r, c))] else (getT L (r, c)).getD z) w := by
  obtain ⟨es, clock, hb, F⟩ := h
  obtain ⟨l, hl⟩ := key_spot hr hc
  have hck := fun em => keyed.check w em hl
  unfold hasT
  rcases F.find w hr hc with ⟨h1, h2, _⟩ | ⟨j, e0, h1, h2, _, _⟩
  · rw [h1]
    simp [Instr.lookup, run_underlying ht, MapKept.run_getObj_map hb, hck, h2, hz, Result.andThen]
  · rw [h1]
    simp [Instr.lookup, run_underlying ht, MapKept.run_getObj_map hb, hck, h2, Result.andThen]
theorem Tab.len {t e : TypeId} (ht : Try.prog.underlying t = some (.map 35 e)) (h : Tab w b L) (ty : TypeId) : (Builtin.len_ #[t] ty #[.map (some b)]).run Try.prog w = .ok (.int .i64 L.length) w := by
  obtain ⟨es, clock, hb, F⟩ := h
  rw [← F.size]
  simp [Builtin.len_, run_underlying ht, MapKept.run_getObj_map hb, goInt, Result.andThen]

theorem perm_delT {α : Type} {s : Sp} {x : α} : ∀ {L : Tb α}, SortT L → (s, x) ∈ L → L.Perm ((s, x) :: delT L s)
  | [], _, h => by cases h
  | p :: q, hs, h => by
    obtain ⟨h1, h2⟩ := List.pairwise_cons.1 hs
    rcases List.mem_cons.1 h with rfl | h'
    · have e : delT ((s, x) :: q) s = delT q s := by unfold delT; rw [List.filter_cons_of_neg (by simp)]
      rw [e, delT_of_none (fun p hp e => ltS_ne (h1 p hp) e.symm)]
    · have hne : p.1 ≠ s := ltS_ne (h1 _ h')
      have e : delT (p :: q) s = p :: delT q s := by unfold delT; rw [List.filter_cons_of_pos (by simp [hne])]
      rw [e]
      exact (List.Perm.cons p (perm_delT h2 h')).trans (List.Perm.swap _ _ _)
theorem perm_erase {α : Type} : ∀ {l : List α} {j : Nat} {x : α}, l[j]? = some x → l.Perm (x :: l.eraseIdx j)
  | [], _, _, h => by simp at h
  | a :: l, 0, x, h => by
    simp only [List.getElem?_cons_zero, Option.some.injEq] at h
    subst h
    exact List.Perm.refl _
  | a :: l, j + 1, x, h => by
    simp only [List.getElem?_cons_succ] at h
    exact (List.Perm.cons a (perm_erase h)).trans (List.Perm.swap _ _ _)
theorem perm_set {α : Type} {l : List α} {j : Nat} (hj : j < l.length) (y : α) : (l.set j y).Perm (y :: l.eraseIdx j) := by
  have h := perm_erase (l := l.set j y) (j := j) (x := y) (by simp [hj])
  rwa [List.eraseIdx_set_eq] at h
/-- What is left of the entries behind one is what is left of the list. -/
theorem Raw.rest (h : Raw es clock L) {j : Nat} {e : MapEntry} (hj : es.toList[j]? = some e) (hk : e.key = spotV r c) :
    ((es.toList.eraseIdx j).map fun e => (e.key, e.val)).Perm ((delT L (r, c)).map mk2) := by
  obtain ⟨p, hp, e1, e2⟩ := h.entry (List.mem_of_getElem? hj)
  have hs : (r, c) = p.1 := spot_inj (hk.symm.trans e1)
  have p1 := (perm_erase hj).map (fun e : MapEntry => (e.key, e.val))
  have p2 := (perm_delT h.sorted (s := (r, c)) (x := p.2) (by rw [hs]; exact hp)).map mk2
  have p3 := (p1.symm.trans h.perm).trans p2
  simp only [List.map_cons] at p3
  have : mk2 ((r, c), p.2) = (e.key, e.val) := by unfold mk2; rw [hk, e2]
  rw [this] at p3
  exact List.Perm.cons_inv p3

theorem Tab.store {t e : TypeId} (ht : Try.prog.underlying t = some (.map 35 e)) (h : Tab w b L) (hm : mayB r c = true) (v : Value) :
    ∃ w', (Instr.mapUpdate t (.map (some b)) (spotV r c) v).run Try.prog w = .ok () w' ∧ Tab w' b (insT L (r, c) v) ∧ w.grownBy w' (some b) := by
  obtain ⟨es, clock, hb, F⟩ := h
  obtain ⟨hr, hc⟩ := may_wf hm
  obtain ⟨l, hl⟩ := key_spot hr hc
  have hck := fun em => keyed.check w em hl
  have hmay : ∀ p ∈ insT L (r, c) v, mayB p.1.1 p.1.2 = true := fun p hp => by
    rcases (mem_insT F.sorted).1 hp with rfl | ⟨hp', _⟩
    · exact hm
    · exact F.may p hp'
  have hgr : ∀ es' clock', w.grownBy (setBlock w b (.map es' clock')) (some b) := fun es' clock' => ⟨rfl, rfl, rfl, by simp [setBlock], fun i _ hi => heap_setBlock_other hb _ (fun e => hi (by rw [e]))⟩
  have hins := (insT_perm (r, c) v F.sorted).map mk2
  simp only [List.map_cons] at hins
  rcases F.find w hr hc with ⟨h1, h2, h3⟩ | ⟨j, e0, h1, h2, h3, h4⟩
  · refine ⟨setBlock w b (.map (es.push ⟨spotV r c, v, clock⟩) (clock + 1)), ?_, ⟨_, _, heap_setBlock_same hb _, ⟨stamped_push F.stamped h3, ?_, insT_sorted _ _ F.sorted, hmay⟩⟩, hgr _ _⟩
    · simp [Instr.mapUpdate, run_underlying ht, MapKept.run_getObj_map hb, hck, h2, MapKept.run_setObj_map _ hb, Result.andThen, setBlock]
    · rw [delT_of_none (getT_none h1)] at hins
      simp only [Array.toList_push, List.map_append, List.map_cons, List.map_nil]
      exact (List.perm_append_singleton _ _).trans ((List.Perm.cons _ F.perm).trans hins.symm)
  · have hj : es[j]? = some e0 := by simpa using h3
    have hjl : j < es.toList.length := (List.getElem?_eq_some_iff.1 h3).1
    have hlist : (es.modify j (fun e' => { e' with key := spotV r c, val := v })).toList = es.toList.set j { e0 with key := spotV r c, val := v } := by rw [Array.toList_modify, modify_eq_set _ _ _ _ h3]
    refine ⟨setBlock w b (.map (es.modify j (fun e' => { e' with key := spotV r c, val := v })) clock), ?_, ⟨_, _, heap_setBlock_same hb _, ⟨stamped_modify F.stamped _ _ (fun _ _ => rfl) (fun e' _ he' => by rw [hj] at he'; cases he'; exact h4.symm), ?_, insT_sorted _ _ F.sorted, hmay⟩⟩, hgr _ _⟩
    · simp [Instr.mapUpdate, run_underlying ht, MapKept.run_getObj_map hb, hck, h2, hj, h4, keyed.stays w hl, MapKept.run_setObj_map _ hb, Result.andThen, setBlock]
    · rw [hlist]
      have p1 := (perm_set hjl { e0 with key := spotV r c, val := v }).map (fun e : MapEntry => (e.key, e.val))
      simp only [List.map_cons] at p1
      exact p1.trans ((List.Perm.cons _ (F.rest h3 h4)).trans hins.symm)

theorem Tab.drop {t e : TypeId} (ht : Try.prog.underlying t = some (.map 35 e)) (h : Tab w b L) (hr : wfI r) (hc : wfI c) (ty : TypeId) :
    ∃ w', (Builtin.delete_ #[t, 35] ty #[.map (some b), spotV r c]).run Try.prog w = .ok (.tuple #[]) w' ∧ Tab w' b (delT L (r, c)) ∧ w.grownBy w' (some b) := by
  obtain ⟨es, clock, hb, F⟩ := h
  obtain ⟨l, hl⟩ := key_spot hr hc
  have hck := fun em => keyed.check w em hl
  have hgr : ∀ es' clock', w.grownBy (setBlock w b (.map es' clock')) (some b) := fun es' clock' => ⟨rfl, rfl, rfl, by simp [setBlock], fun i _ hi => heap_setBlock_other hb _ (fun e => hi (by rw [e]))⟩
  rcases F.find w hr hc with ⟨h1, h2, h3⟩ | ⟨j, e0, h1, h2, h3, h4⟩
  · refine ⟨setBlock w b (.map es clock), ?_, ⟨_, _, heap_setBlock_same hb _, by rw [delT_of_none (getT_none h1)]; exact F⟩, hgr _ _⟩
    simp [Builtin.delete_, run_underlying ht, MapKept.run_getObj_map hb, hck, h2, MapKept.run_setObj_map _ hb, Result.andThen, setBlock]
  · have hjl : j < es.toList.length := (List.getElem?_eq_some_iff.1 h3).1
    have hjs : j < es.size := by simpa using hjl
    have hsub : (es.eraseIdxIfInBounds j).toList = es.toList.eraseIdx j := by
      unfold Array.eraseIdxIfInBounds
      rw [dif_pos hjs]
      simp
    refine ⟨setBlock w b (.map (es.eraseIdxIfInBounds j) clock), ?_, ⟨_, _, heap_setBlock_same hb _, ⟨stamped_erase F.stamped j, by rw [hsub]; exact F.rest h3 h4, delT_sorted _ F.sorted, fun p hp => F.may p (mem_delT.1 hp).1⟩⟩, hgr _ _⟩
    simp [Builtin.delete_, run_underlying ht, MapKept.run_getObj_map hb, hck, h2, MapKept.run_setObj_map _ hb, Result.andThen, setBlock]

/-! ### going over a map -/
/-- The places C have come out; block r0 is the iterator over block b. -/
def Rng (w : World) (b r0 : Nat) (L : Tb Value) (C : List Sp) : Prop :=
  ∃ es clock since seen c0, w.heap[b]? = some (.map es clock) ∧ Raw es clock L ∧ w.heap[r0]? = some (.mapIter (some b) since seen c0) ∧ (∀ x ∈ es.toList, x.born < since) ∧ since ≤ c0 ∧ since ≤ clock ∧
    (((leftOf es seen).toList.map fun e => unSpot e.key) ++ C).Perm (keysT L)
variable {C : List Sp}
theorem Rng.tab (h : Rng w b r0 L C) : Tab w b L := by obtain ⟨es, clock, _, _, _, hb, F, _⟩ := h; exact ⟨es, clock, hb, F⟩
theorem Rng.lt (h : Rng w b r0 L C) : r0 < w.heap.size := by obtain ⟨es, clock, _, _, _, hb, F, hr, _⟩ := h; exact (Array.getElem?_eq_some_iff.1 hr).1
theorem Rng.ne (h : Rng w b r0 L C) : r0 ≠ b := by
  obtain ⟨es, clock, _, _, _, hb, F, hr, _⟩ := h
  intro e
  rw [e, hb] at hr
  cases hr
theorem Rng.iter (h : Rng w b r0 L C) : ∃ m s q c, w.heap[r0]? = some (.mapIter m s q c) := by obtain ⟨es, clock, _, _, _, hb, F, hr, _⟩ := h; exact ⟨_, _, _, _, hr⟩
theorem Rng.left (h : Rng w b r0 L C) : w.rangeLeft b r0 + C.length = L.length := by
  obtain ⟨es, clock, since, seen, c0, hb, F, hr, _, _, _, hp⟩ := h
  have := hp.length_eq
  simp only [World.rangeLeft, hb, hr]
  simp [keysT] at this
  omega
theorem Rng.kept {w' : World} {row : Option Nat} (h : Rng w b r0 L C) (hg : w.grownBy w' row) (hb' : some b ≠ row) (hr' : some r0 ≠ row) : Rng w' b r0 L C := by
  have h1 := h.tab.lt
  have h2 := h.lt
  obtain ⟨es, clock, since, seen, c0, hb, F, hr, rest⟩ := h
  exact ⟨es, clock, since, seen, c0, (hg.block b h1 hb').trans hb, F, (hg.block r0 h2 hr').trans hr, rest⟩
theorem Rng.keep {w' : World} (h : Rng w b r0 L C) (hb : Below w.heap.size w w') : Rng w' b r0 L C :=
  h.kept (row := none) ⟨hb.os, hb.tape, hb.output, hb.size, fun k hk _ => hb.block k hk⟩ (by simp) (by simp)
theorem filter_born {f : MapEntry → Bool} : ∀ {l : List MapEntry}, (l.map (·.born)).Nodup → ∀ {e : MapEntry}, e ∈ l → f e = true → (l.filter f).Perm (e :: l.filter (fun x => f x && !(x.born == e.born)))
  | [], _, _, h, _ => by cases h
  | a :: l, hn, e, he, hf => by
    simp only [List.map_cons, List.nodup_cons, List.mem_map, not_exists, not_and] at hn
    obtain ⟨h1, h2⟩ := hn
    rcases List.mem_cons.1 he with rfl | he'
    · rw [List.filter_cons_of_pos hf, List.filter_cons_of_neg (by simp)]
      have : l.filter (fun x => f x && !(x.born == e.born)) = l.filter f := List.filter_congr (fun x hx => by
        have := h1 x hx
        simp [this])
      rw [this]
    · have hne : (a.born == e.born) = false := by
        rw [beq_eq_false_iff_ne]
        exact fun k => h1 e he' k.symm
      have ih := filter_born h2 he' hf
      by_cases hfa : f a = true
      · rw [List.filter_cons_of_pos hfa, List.filter_cons_of_pos (by simp [hfa, hne])]
        exact (List.Perm.cons a ih).trans (List.Perm.swap _ _ _)
      · rw [List.filter_cons_of_neg hfa, List.filter_cons_of_neg (by simp [hfa])]
        exact ih
theorem left_perm {seen : Array Nat} {e : MapEntry} (hn : (es.toList.map (·.born)).Nodup) (he : e ∈ (leftOf es seen).toList) : (leftOf es seen).toList.Perm (e :: (leftOf es (seen.push e.born)).toList) := by
  have h1 := mem_left he
  have e1 : ∀ s, (leftOf es s).toList = es.toList.filter (fun x => !s.contains x.born) := fun s => by unfold leftOf; rw [Array.toList_filter]
  rw [e1, e1]
  refine (filter_born hn h1.1 (by rw [h1.2]; rfl)).trans (List.Perm.cons _ (List.Perm.of_eq (List.filter_congr fun x hx => ?_)))
  rw [contains_push]
  cases seen.contains x.born <;> rfl
theorem Rng.start {t e : TypeId} (ht : Try.prog.underlying t = some (.map 35 e)) (h : Tab w b L) :
    ∃ w', (Instr.range t (.map (some b))).run Try.prog w = .ok (.pointer (some ⟨w.heap.size, 0, none⟩)) w' ∧ Rng w' b w.heap.size L [] ∧ Below w.heap.size w w' := by
  have hlt := h.lt
  obtain ⟨es, clock, hb, F⟩ := h
  refine ⟨_, run_range_map w t 35 e b es clock ht hb, ⟨es, clock, clock, #[], clock, ((MapKept.heap_alloc w _).2 b hlt).trans hb, F, (MapKept.heap_alloc w _).1, F.stamped.1, Nat.le_refl _, Nat.le_refl _, ?_⟩, (Below.refl _ _).alloc (Nat.le_refl _) _⟩
  have e1 : leftOf es #[] = es := by unfold leftOf; exact Array.filter_eq_self.2 (fun x _ => by simp)
  rw [e1, List.append_nil]
  have := F.perm.map (fun p => unSpot p.1)
  simp only [List.map_map, Function.comp_def, mk2, unSpot_spot] at this
  exact this
theorem Rng.next (h : Rng w b r0 L C) (ty : TypeId) :
    (C.Perm (keysT L) ∧ (Instr.next (.pointer (some ⟨r0, 0, none⟩)) false ty).run Try.prog w = .ok (.tuple #[.bool false]) w) ∨
    ∃ r c v w', ((r, c), v) ∈ L ∧ (Instr.next (.pointer (some ⟨r0, 0, none⟩)) false ty).run Try.prog w = .ok (.tuple #[.bool true, spotV r c, v]) w' ∧ Rng w' b r0 L (C ++ [(r, c)]) ∧ w.grownBy w' (some r0) ∧ w'.heap.size = w.heap.size ∧
      (Instr.entry (.pointer (some ⟨r0, 0, none⟩))).run Try.prog w' = .ok (.tuple #[spotV r c, v]) w' := by
  have hne := h.ne
  obtain ⟨es, clock, since, seen, c0, hb, F, hr, hold, hsc, hsk, hp⟩ := h
  rcases run_next_at (P := Try.prog) w ty r0 b since c0 seen es clock hr hb hold hsc with ⟨h0, hrun⟩ | ⟨e, he, w1, hal, hrun⟩
  · have h2 : leftOf es seen = #[] := Array.eq_empty_of_size_eq_zero h0
    rw [h2] at hp
    exact .inl ⟨by simpa using hp, hrun⟩
  · obtain ⟨hem, hes⟩ := mem_left he
    obtain ⟨p, hpL, e1, e2⟩ := F.entry hem
    have hr1 : w1.heap[r0]? = some (.mapIter (some b) since seen c0) := by rcases hal with rfl | rfl <;> exact hr
    have hb1 : w1.heap[b]? = some (.map es clock) := by rcases hal with rfl | rfl <;> exact hb
    have hset := heap_set (o' := .mapIter (some b) since (seen.push e.born) clock) hr1
    have hb' : (setBlock w1 r0 (.mapIter (some b) since (seen.push e.born) clock)).heap[b]? = some (.map es clock) := (hset.2 b (fun e1 => hne e1.symm)).trans hb1
    have hst := (stamped_iff es clock).1 F.stamped
    have hent := run_entry_at (P := Try.prog) _ r0 b since seen es clock e hset.1 hb' hem hst.2.1
    rw [e1, e2] at hrun hent
    refine .inr ⟨p.1.1, p.1.2, p.2, _, hpL, hrun, ⟨es, clock, since, seen.push e.born, clock, hb', F, hset.1, hold, hsk, hsk, ?_⟩, ?_, ?_, hent⟩
    · have p1 := (left_perm hst.2.1 he).map (fun e => unSpot e.key)
      simp only [List.map_cons] at p1
      rw [e1, unSpot_spot] at p1
      refine List.Perm.trans ?_ hp
      refine List.Perm.trans ?_ (List.Perm.append_right C p1.symm)
      rw [← List.append_assoc]
      exact (List.perm_append_singleton _ _)
    · rcases hal with rfl | rfl <;> exact ⟨rfl, rfl, rfl, by simp [setBlock], fun i _ hi => hset.2 i (fun e1 => hi (by rw [e1]))⟩
    · rcases hal with rfl | rfl <;> simp [setBlock]
end
end Go.Proofs.Ytmfkeobjbcinpaa
