/- Trees of formulas as Lean data, and where they lie in memory; small facts that the walks of package tree and of the document's own functions share. The catalogue (list laws): what list.catalogue answers. list.classOf, list.Info and tree.takes: what they answer of every number. -/
import Derived.Test.YtgnmkhjilecdhaaGreatDoorRows
import Derived.WalkKit
import Derived.WalkSpells
import Derived.WalkLawsBesides
import Derived.Deep.RegionWith
import Derived.Lib.QuietBelow
import Derived.BigQuiet
import Derived.Below
import Derived.Handy
import Derived.LoopTactic
import Derived.OwnWalk
import Derived.Laws.OwnMore
import Derived.Laws.EntriesVeiled
import Derived.Deep.MidRow
import Derived.Deep.WholeRow
import Derived.Great.Walk
import Derived.StillTailTactics
namespace Go.Proofs.YtgnmkhjilecdhaaGreatDoor.T9
open Go.RowKit Go.Sort
set_option linter.unusedVariables false

theorem hide {p : Prop} (h : p) : Hid p := h
theorem ret_bool {a b : Bool} (h : a = b) : Ending.returned (.bool a) = .returned (.bool b) := by rw [h]
theorem next {a w w' : World} (h : Below a.heap.size a w) (hb : Below w.heap.size w w') : Below a.heap.size a w' := h.trans (hb.mono h.size)
theorem step {a w : World} (h : Below a.heap.size a w) (o : Obj) : Below a.heap.size a (w.alloc o) := h.alloc h.size o
abbrev no : ByteArray := { data := #[] }
/-- A reference. -/
structure Rf where
  row : Int
  col : Int
  pr : Bool
  pc : Bool
/-- A node without its kids. -/
structure Nd where
  kind : Int
  op : Int
  num : Int
  text : ByteArray
  ref : Rf
  to : Rf
  fn : Int
/-- A tree. -/
inductive Ex where
  | mk (nd : Nd) (kids : List Ex)
def Ex.nd : Ex → Nd | .mk n _ => n
def Ex.kids : Ex → List Ex | .mk _ k => k
theorem Ex.ind {P : Ex → Prop} (h : ∀ nd ks, (∀ k ∈ ks, P k) → P (.mk nd ks)) (t : Ex) : P t :=
  Ex.rec (motive_1 := P) (motive_2 := fun ks => ∀ k ∈ ks, P k) (fun nd ks ih => h nd ks ih) (fun k hk => by cases hk) (fun t r iht ihr k hk => by
    rcases List.mem_cons.1 hk with rfl | hk
    · exact iht
    · exact ihr k hk) t
abbrev rfC (r : Rf) : List Value := [.int .i64 r.row, .int .i64 r.col, .bool r.pr, .bool r.pc]
abbrev rfV (r : Rf) : Value := .agg #[.int .i64 r.row, .int .i64 r.col, .bool r.pr, .bool r.pc]
/-- A node's cells, its kids' list as a value. -/
def exC (n : Nd) (s : Value) : Array Value :=
  #[.int .i64 n.kind, .int .i64 n.op, .int .i64 n.num, .string n.text, .int .i64 n.ref.row, .int .i64 n.ref.col, .bool n.ref.pr, .bool n.ref.pc, .int .i64 n.to.row, .int .i64 n.to.col, .bool n.to.pr, .bool n.to.pc, .int .i64 n.fn, s]
abbrev exV (n : Nd) (s : Value) : Value := .agg (exC n s)
theorem exC_size (n : Nd) (s : Value) : (exC n s).size = 14 := rfl
theorem exC_len (n : Nd) (s : Value) : (exC n s).toList.length = 14 := rfl
theorem exC_one (n : Nd) (a : Option Addr) (l c : Nat) : (exC n (.slice a l c)).all (·.oneCell') = true := by simp [exC, Value.oneCell']
/-- What stands in each cell. -/
structure At14 (n : Nd) (s : Value) : Prop where
  c0 : (exC n s)[0]? = some (.int .i64 n.kind)
  c1 : (exC n s)[1]? = some (.int .i64 n.op)
  c2 : (exC n s)[2]? = some (.int .i64 n.num)
  c3 : (exC n s)[3]? = some (.string n.text)
  c4 : (exC n s)[4]? = some (.int .i64 n.ref.row)
  c5 : (exC n s)[5]? = some (.int .i64 n.ref.col)
  c6 : (exC n s)[6]? = some (.bool n.ref.pr)
  c7 : (exC n s)[7]? = some (.bool n.ref.pc)
  c8 : (exC n s)[8]? = some (.int .i64 n.to.row)
  c9 : (exC n s)[9]? = some (.int .i64 n.to.col)
  c10 : (exC n s)[10]? = some (.bool n.to.pr)
  c11 : (exC n s)[11]? = some (.bool n.to.pc)
  c12 : (exC n s)[12]? = some (.int .i64 n.fn)
  c13 : (exC n s)[13]? = some s
theorem at14 (n : Nd) (s : Value) : At14 n s := ⟨rfl, rfl, rfl, rfl, rfl, rfl, rfl, rfl, rfl, rfl, rfl, rfl, rfl, rfl⟩
/-- The block holds these cells. -/
def Blk (W : World) (B : Nat) (vs : Array Value) (t : TypeId) : Prop := W.heap[B]? = some (.cells vs t)
theorem Blk.lt {W : World} {B : Nat} {vs : Array Value} {t : TypeId} (h : Blk W B vs t) : B < W.heap.size := (Array.getElem?_eq_some_iff.1 h).1
theorem Blk.new (W : World) (vs : Array Value) (t : TypeId) : Blk (W.alloc (.cells vs t)) W.heap.size vs t := heap_alloc_new W _
theorem Blk.keep {W W' : World} {B : Nat} {vs : Array Value} {t : TypeId} (h : Blk W B vs t) (hb : Below W.heap.size W W') : Blk W' B vs t := (hb.block B h.lt).trans h
theorem Blk.alloc {W : World} {B : Nat} {vs : Array Value} {t : TypeId} (h : Blk W B vs t) (o : Obj) : Blk (W.alloc o) B vs t := h.keep ((Below.refl _ _).alloc (Nat.le_refl _) _)
theorem Blk.fr {W : World} {B : Nat} {vs : Array Value} {t : TypeId} (h : Blk W B vs t) (j : Nat) : W.frozen? ⟨B, j, none⟩ = false := by simp [World.frozen?, show W.heap[B]? = _ from h]
theorem Blk.at' {W : World} {B : Nat} {vs : Array Value} {t : TypeId} (h : Blk W B vs t) (j : Nat) : W.cell? ⟨B, j, none⟩ = vs[j]? := by simp [World.cell?, show W.heap[B]? = _ from h]
theorem Blk.new1 (W : World) (o : Obj) (vs : Array Value) (t : TypeId) : Blk ((W.alloc o).alloc (.cells vs t)) (W.heap.size + 1) vs t := by
  have := Blk.new (W.alloc o) vs t
  simpa only [World.size_alloc] using this
theorem Blk.new2 (W : World) (o o' : Obj) (vs : Array Value) (t : TypeId) : Blk (((W.alloc o).alloc o').alloc (.cells vs t)) (W.heap.size + 1 + 1) vs t := by
  have := Blk.new ((W.alloc o).alloc o') vs t
  simpa only [World.size_alloc] using this
theorem Blk.new3 (W : World) (o o' o'' : Obj) (vs : Array Value) (t : TypeId) : Blk ((((W.alloc o).alloc o').alloc o'').alloc (.cells vs t)) (W.heap.size + 1 + 1 + 1) vs t := by
  have := Blk.new (((W.alloc o).alloc o').alloc o'') vs t
  simpa only [World.size_alloc] using this
theorem Blk.one {W : World} {B : Nat} {v : Value} {t : TypeId} (h : Blk W B #[v] t) : W.cell? ⟨B, 0, none⟩ = some v := h.at' 0
theorem Blk.set {W : World} {B : Nat} {vs : Array Value} {t : TypeId} (h : Blk W B vs t) (j : Nat) (u : Value) : Blk (W.setCell ⟨B, j, none⟩ u) B (vs.setIfInBounds j u) t := by
  have hlt := h.lt
  have hget := (Array.getElem?_eq_some_iff.1 h).2
  unfold Blk World.setCell
  rw [Array.getElem?_eq_getElem (by simpa using hlt), Array.getElem_modify, if_pos rfl, hget]
  rfl
/-- Nothing is written but blocks of the kind. -/
structure Chg (m : Nat → Prop) (w w' : World) : Prop where
  os : w'.os = w.os
  tape : w'.tape = w.tape
  output : w'.output = w.output
  size : w.heap.size ≤ w'.heap.size
  block : ∀ k, k < w.heap.size → ¬ m k → w'.heap[k]? = w.heap[k]?
theorem Chg.refl (m : Nat → Prop) (w : World) : Chg m w w := ⟨rfl, rfl, rfl, Nat.le_refl _, fun _ _ _ => rfl⟩
theorem Chg.of_below {m : Nat → Prop} {w w' : World} (h : Below w.heap.size w w') : Chg m w w' := ⟨h.os, h.tape, h.output, h.size, fun k hk _ => h.block k hk⟩
theorem Chg.trans {m : Nat → Prop} {w w1 w2 : World} (h : Chg m w w1) (k : Chg m w1 w2) : Chg m w w2 := ⟨k.os.trans h.os, k.tape.trans h.tape, k.output.trans h.output, Nat.le_trans h.size k.size, fun j hj hm => (k.block j (Nat.lt_of_lt_of_le hj h.size) hm).trans (h.block j hj hm)⟩
theorem Chg.alloc {m : Nat → Prop} {w w' : World} (h : Chg m w w') (o : Obj) : Chg m w (w'.alloc o) := h.trans (.of_below ((Below.refl _ _).alloc (Nat.le_refl _) _))
theorem Chg.set {m : Nat → Prop} {w w' : World} (h : Chg m w w') (B j : Nat) (u : Value) (hm : m B) : Chg m w (w'.setCell ⟨B, j, none⟩ u) :=
  h.trans ⟨rfl, rfl, rfl, by simp, fun k _ hk => Below.heap_setCell _ _ _ k (fun e => hk (by rw [e]; exact hm))⟩
theorem Chg.blk {m : Nat → Prop} {w w' : World} (h : Chg m w w') {B : Nat} {vs : Array Value} {t : TypeId} (hb : Blk w B vs t) (hm : ¬ m B) : Blk w' B vs t := (h.block B hb.lt hm).trans hb
theorem Chg.below {m : Nat → Prop} {w w' : World} (h : Chg m w w') {N : Nat} (hN : N ≤ w.heap.size) (hm : ∀ k, m k → N ≤ k) : Below N w w' :=
  ⟨h.os, h.tape, h.output, h.size, fun k hk => h.block k (Nat.lt_of_lt_of_le hk hN) (fun e => absurd (hm k e) (Nat.not_le_of_lt hk))⟩
mutual
/-- The tree lies in memory, its lists in blocks of the kind; no text and no list is longer than any may be. -/
def In (m : Nat → Prop) (w : World) (v : Value) : Ex → Prop
  | .mk nd ks => ∃ a len cap, v = exV nd (.slice a len cap) ∧ len = ks.length ∧ len ≤ 4611686018427387904 ∧ nd.text.size ≤ 4611686018427387904 ∧ (len = 0 ∨ ∃ b o, a = some ⟨b, o, none⟩ ∧ m b ∧ Kids m w b o ks)
def Kids (m : Nat → Prop) (w : World) (b o : Nat) : List Ex → Prop
  | [] => True
  | k :: r => (∃ cs, In m w (.agg cs) k ∧ w.rangeAt b o cs.toList) ∧ Kids m w b (o + 14) r
end
theorem In.open {m : Nat → Prop} {w : World} {v : Value} {t : Ex} (h : In m w v t) :
    ∃ a len cap, v = exV t.nd (.slice a len cap) ∧ len = t.kids.length ∧ len ≤ 4611686018427387904 ∧ t.nd.text.size ≤ 4611686018427387904 ∧ (len = 0 ∨ ∃ b o, a = some ⟨b, o, none⟩ ∧ m b ∧ Kids m w b o t.kids) := by
  cases t; unfold In at h; exact h
theorem In.un {m : Nat → Prop} {w : World} {v : Value} {nd : Nd} {ks : List Ex} (h : In m w v (.mk nd ks)) :
    ∃ a len cap, v = exV nd (.slice a len cap) ∧ Hid (len = ks.length) ∧ Hid (len ≤ 4611686018427387904) ∧ Hid (nd.text.size ≤ 4611686018427387904) ∧ Hid (len = 0 ∨ ∃ b o, a = some ⟨b, o, none⟩ ∧ m b ∧ Kids m w b o ks) := by
  unfold In at h; exact h
theorem Kids.get {m : Nat → Prop} {w : World} {b : Nat} : ∀ {ks : List Ex} {o : Nat}, Kids m w b o ks → ∀ i (hi : i < ks.length), ∃ cs, In m w (.agg cs) ks[i] ∧ w.rangeAt b (o + i * 14) cs.toList
  | [], _, _, i, hi => absurd hi (Nat.not_lt_zero i)
  | k :: r, o, h, 0, _ => by unfold Kids at h; simpa using h.1
  | k :: r, o, h, i + 1, hi => by
    unfold Kids at h
    obtain ⟨cs, h1, h2⟩ := Kids.get h.2 i (by simpa using hi)
    exact ⟨cs, by simpa only [List.getElem_cons_succ] using h1, by rw [show o + (i + 1) * 14 = o + 14 + i * 14 by omega]; exact h2⟩
theorem Kids.of {m : Nat → Prop} {w : World} {b : Nat} : ∀ {ks : List Ex} {o : Nat}, (∀ i (hi : i < ks.length), ∃ cs, In m w (.agg cs) ks[i] ∧ w.rangeAt b (o + i * 14) cs.toList) → Kids m w b o ks
  | [], _, _ => by unfold Kids; trivial
  | k :: r, o, h => by
    unfold Kids
    refine ⟨by obtain ⟨cs, h1, h2⟩ := h 0 (by simp); exact ⟨cs, h1, by simpa using h2⟩, Kids.of fun i hi => ?_⟩
    obtain ⟨cs, h1, h2⟩ := h (i + 1) (by simpa using hi)
    exact ⟨cs, by simpa using h1, by rw [show o + 14 + i * 14 = o + (i + 1) * 14 by omega]; exact h2⟩
theorem range_of_block {w w' : World} {b o : Nat} {cs : List Value} (h : w.rangeAt b o cs) (e : w'.heap[b]? = w.heap[b]?) : w'.rangeAt b o cs := fun j v hv => by
  exact (World.cell?_of_block (w := w) e).trans (h j v hv)
/-- From world to world, where the blocks of the kind are the same. -/
theorem In.move {m m' : Nat → Prop} {w w' : World} (hm : ∀ k, m k → m' k ∧ w'.heap[k]? = w.heap[k]?) : ∀ (t : Ex) {v : Value}, In m w v t → In m' w' v t := by
  refine Ex.ind fun nd ks ih => ?_
  intro v h
  unfold In at h ⊢
  obtain ⟨a, len, cap, hv, hl, hb, ht, h⟩ := h
  refine ⟨a, len, cap, hv, hl, hb, ht, ?_⟩
  rcases h with h | ⟨b, o, ha, hmb, hk⟩
  · exact .inl h
  · refine .inr ⟨b, o, ha, (hm b hmb).1, Kids.of fun i hi => ?_⟩
    obtain ⟨cs, h1, h2⟩ := hk.get i hi
    exact ⟨cs, ih _ (List.getElem_mem hi) h1, range_of_block h2 (hm b hmb).2⟩
theorem In.low {N : Nat} {w w' : World} {v : Value} {t : Ex} (h : In (· < N) w v t) (hb : Below N w w') : In (· < N) w' v t := h.move (m' := (· < N)) (fun k hk => ⟨hk, hb.block k hk⟩)
theorem In.wide {m m' : Nat → Prop} {w : World} {v : Value} {t : Ex} (h : In m w v t) (hm : ∀ k, m k → m' k) : In m' w v t := h.move (fun k hk => ⟨hm k hk, rfl⟩)
theorem In.keep {m : Nat → Prop} {w w' : World} {v : Value} {t : Ex} (h : In m w v t) (hm : ∀ k, m k → k < w.heap.size) (hb : Below w.heap.size w w') : In m w' v t := h.move (fun k hk => ⟨hk, hb.block k (hm k hk)⟩)
/-- A whole struct stored into the block that was made last. -/
theorem wpList_store_new {P : Program} {ops : Array Oper} {rest : List Oper} {op : Oper} {a : Act} {w : World} {Q : Exit → Act → World → Prop} (hgd : op.guard = none) (ty : TypeId) (x y : Operand) (ho : op.op = .store ty x y)
    (c c' : Array Value) (g : Nat) (hx : a.eval x = .pointer (some ⟨g, 0, none⟩)) (hgw : g = w.heap.size) (hy : a.eval y = .agg c') (hi : (P.info? ty).map (·.size) = some c'.size) (hc : c.size = c'.size) (h1 : c'.all (·.oneCell') = true)
    (h : wpList P ops Q rest (a.put op.dst undef) (w.alloc (.cells c' ty))) : wpList P ops Q (op :: rest) a (w.alloc (.cells c ty)) :=
  wpList_plain hgd fun _ hK => by
    subst hgw
    unfold Oper.wp execOp
    simp only [ho, hx, hy, Sem.run_bind, run_storeAt_new (P := P) w ty c c' hi hc h1, Result.andThen_ok]
    exact hK _ _ h
/-- A whole struct out of the middle of a row. -/
theorem wpList_load_at {P : Program} {ops : Array Oper} {rest : List Oper} {op : Oper} {a : Act} {w : World} {Q : Exit → Act → World → Prop} (hgd : op.guard = none) (ty : TypeId) (x : Operand) (ho : op.op = .load ty x)
    (b o : Nat) (hx : a.eval x = .pointer (some ⟨b, o, none⟩)) (cs : Array Value) (d : TypeDesc) (hc : w.rangeAt b o cs.toList)
    (hu : P.underlying ty = some d) (hd : d.isRow = true) (hi : (P.info? ty).map (·.size) = some cs.size)
    (h : wpList P ops Q rest (a.put op.dst (.agg cs)) w) : wpList P ops Q (op :: rest) a w :=
  wpList_load_mid hgd ty x ho b o hx cs.toList d hc hu hd (by simpa using hi) (by simpa using h)
/-- A whole struct out of a block that holds just it. -/
theorem wpList_load_blk {P : Program} {ops : Array Oper} {rest : List Oper} {o : Oper} {a : Act} {w : World} {Q : Exit → Act → World → Prop} (hgd : o.guard = none) (ty : TypeId) (x : Operand) (ho : o.op = .load ty x)
    (g : Nat) (hx : a.eval x = .pointer (some ⟨g, 0, none⟩)) (cs : Array Value) (hg : Blk w g cs ty) (d : TypeDesc)
    (hu : P.underlying ty = some d) (hd : d.isRow = true) (hi : (P.info? ty).map (·.size) = some cs.size)
    (h : wpList P ops Q rest (a.put o.dst (.agg cs)) w) : wpList P ops Q (o :: rest) a w :=
  wpList_load_row hgd ty x ho g hx ty cs (0, 0) d hg hu (by cases d <;> simp_all) hi h
theorem ite_max (x y : Int) : (if x < y then y else x) = max x y := by split <;> omega
theorem enters {P : Program} {f : FuncId} {fn : Func} (hf : P.funcs[f]? = some fn) (hn : (fn.name == "runtime.NumGoroutine") = false) (hb : fn.body.isNone = false) (args : Array Value) (w : World) : (callFunc f args).run P w = .ok (.enter f args) w := by
  unfold callFunc
  rw [Sem.run_bind, show Sem.run P program w = .ok P w from rfl, Result.andThen_ok]
  simp only [hf, hn, hb]
  rfl
theorem In.cs {m : Nat → Prop} {w : World} {cs : Array Value} {t : Ex} (h : In m w (.agg cs) t) : ∃ a len cap, cs = exC t.nd (.slice a len cap) := by
  obtain ⟨a, len, cap, hv, _⟩ := h.open
  exact ⟨a, len, cap, by simpa [exV] using hv⟩
abbrev CallIs (f : Nat) (args : Array Value) (v : Value) : Prop := Hid (∀ w, Calls Tryz.prog f args w fun e w' => e = .returned v ∧ Below w.heap.size w w')
end Go.Proofs.YtgnmkhjilecdhaaGreatDoor.T9
namespace Go.Proofs.YtgnmkhjilecdhaaGreatDoor.T9
open Go.RowKit Go.Sort
set_option linter.unusedVariables false

/-- Name, least and most of each function. -/
def tab : List (ByteArray × Int × Int) := [(⟨#[65, 66, 83]⟩, 1, 1), (⟨#[83, 73, 71, 78]⟩, 1, 1), (⟨#[77, 79, 68]⟩, 2, 2), (⟨#[81, 85, 79, 84, 73, 69, 78, 84]⟩, 2, 2), (⟨#[80, 79, 87, 69, 82]⟩, 2, 2), (⟨#[71, 67, 68]⟩, 2, 2), (⟨#[76, 67, 77]⟩, 2, 2), (⟨#[70, 65, 67, 84]⟩, 1, 1), (⟨#[73, 83, 69, 86, 69, 78]⟩, 1, 1), (⟨#[73, 83, 79, 68, 68]⟩, 1, 1), (⟨#[66, 73, 84, 65, 78, 68]⟩, 2, 2), (⟨#[66, 73, 84, 79, 82]⟩, 2, 2), (⟨#[66, 73, 84, 88, 79, 82]⟩, 2, 2), (⟨#[78, 79, 84]⟩, 1, 1), (⟨#[67, 76, 65, 77, 80]⟩, 3, 3), (⟨#[76, 69, 78]⟩, 1, 1), (⟨#[76, 69, 70, 84]⟩, 1, 2), (⟨#[82, 73, 71, 72, 84]⟩, 1, 2), (⟨#[77, 73, 68]⟩, 3, 3), (⟨#[85, 80, 80, 69, 82]⟩, 1, 1), (⟨#[76, 79, 87, 69, 82]⟩, 1, 1), (⟨#[84, 82, 73, 77]⟩, 1, 1), (⟨#[82, 69, 86, 69, 82, 83, 69]⟩, 1, 1), (⟨#[70, 73, 78, 68]⟩, 2, 3), (⟨#[83, 85, 66, 83, 84, 73, 84, 85, 84, 69]⟩, 3, 3), (⟨#[82, 69, 80, 76, 65, 67, 69]⟩, 4, 4), (⟨#[82, 69, 80, 84]⟩, 2, 2), (⟨#[69, 88, 65, 67, 84]⟩, 2, 2), (⟨#[67, 79, 68, 69]⟩, 1, 1), (⟨#[67, 72, 65, 82]⟩, 1, 1), (⟨#[86, 65, 76, 85, 69]⟩, 1, 1), (⟨#[84, 69, 88, 84]⟩, 1, 1), (⟨#[78]⟩, 1, 1), (⟨#[84]⟩, 1, 1), (⟨#[78, 65]⟩, 0, 0), (⟨#[73, 83, 66, 76, 65, 78, 75]⟩, 1, 1), (⟨#[73, 83, 78, 85, 77, 66, 69, 82]⟩, 1, 1), (⟨#[73, 83, 84, 69, 88, 84]⟩, 1, 1), (⟨#[73, 83, 76, 79, 71, 73, 67, 65, 76]⟩, 1, 1), (⟨#[73, 83, 69, 82, 82, 79, 82]⟩, 1, 1), (⟨#[73, 83, 78, 65]⟩, 1, 1), (⟨#[73, 70]⟩, 2, 3), (⟨#[73, 70, 69, 82, 82, 79, 82]⟩, 2, 2), (⟨#[73, 70, 78, 65]⟩, 2, 2), (⟨#[67, 72, 79, 79, 83, 69]⟩, 2, -1), (⟨#[83, 87, 73, 84, 67, 72]⟩, 3, -1), (⟨#[82, 79, 87]⟩, 0, 1), (⟨#[67, 79, 76, 85, 77, 78]⟩, 0, 1), (⟨#[82, 79, 87, 83]⟩, 1, 1), (⟨#[67, 79, 76, 85, 77, 78, 83]⟩, 1, 1), (⟨#[73, 78, 68, 73, 82, 69, 67, 84]⟩, 1, 1), (⟨#[79, 70, 70, 83, 69, 84]⟩, 3, 5), (⟨#[73, 78, 68, 69, 88]⟩, 2, 3), (⟨#[83, 85, 77]⟩, 1, -1), (⟨#[80, 82, 79, 68, 85, 67, 84]⟩, 1, -1), (⟨#[67, 79, 85, 78, 84]⟩, 1, -1), (⟨#[67, 79, 85, 78, 84, 65]⟩, 1, -1), (⟨#[67, 79, 85, 78, 84, 66, 76, 65, 78, 75]⟩, 1, -1), (⟨#[77, 73, 78]⟩, 1, -1), (⟨#[77, 65, 88]⟩, 1, -1), (⟨#[65, 86, 69, 82, 65, 71, 69]⟩, 1, -1), (⟨#[77, 69, 68, 73, 65, 78]⟩, 1, -1), (⟨#[76, 65, 82, 71, 69]⟩, 2, 2), (⟨#[83, 77, 65, 76, 76]⟩, 2, 2), (⟨#[65, 78, 68]⟩, 1, -1), (⟨#[79, 82]⟩, 1, -1), (⟨#[88, 79, 82]⟩, 1, -1), (⟨#[67, 79, 78, 67, 65, 84]⟩, 1, -1), (⟨#[74, 79, 73, 78]⟩, 2, -1), (⟨#[77, 65, 84, 67, 72]⟩, 2, 2), (⟨#[86, 76, 79, 79, 75, 85, 80]⟩, 3, 3), (⟨#[72, 76, 79, 79, 75, 85, 80]⟩, 3, 3), (⟨#[83, 85, 77, 73, 70]⟩, 2, 3), (⟨#[67, 79, 85, 78, 84, 73, 70]⟩, 2, 2), (⟨#[83, 85, 77, 80, 82, 79, 68, 85, 67, 84]⟩, 2, 2), (⟨#[70, 73, 82, 83, 84]⟩, 1, -1)]
def catL : List Value := tab.flatMap fun r => [.string r.1, .int .i64 r.2.1, .int .i64 r.2.2]
def catC : Array Value := catL.toArray
theorem catC_size : catC.size = 228 := by decide +kernel
theorem tab_len : tab.length = 76 := rfl
theorem cat_info : (Tryz.prog.info? 41).map (·.size) = some catC.size := by rw [catC_size]; kernel_rfl
theorem cat_one : catC.all (·.oneCell') = true := by decide +kernel
def zeroC : Array Value := (List.flatten (List.replicate 76 [Value.string ⟨#[]⟩, .int .i64 0, .int .i64 0])).toArray
theorem zero_info : (Tryz.prog.info? 41).map (fun i => (i.zero, i.size)) = some (some (.agg zeroC), 228) := by kernel_rfl
theorem flat3 : ∀ (l : List (ByteArray × Int × Int)) (k : Nat) (hk : k < l.length), ((l.flatMap fun r => [Value.string r.1, .int .i64 r.2.1, .int .i64 r.2.2]).drop (k * 3)).take 3 = [.string l[k].1, .int .i64 l[k].2.1, .int .i64 l[k].2.2]
  | [], k, hk => absurd hk (Nat.not_lt_zero k)
  | r :: l, 0, hk => by simp
  | r :: l, k + 1, hk => by
    have ih := flat3 l k (by simpa using hk)
    rw [List.flatMap_cons, show (k + 1) * 3 = 3 + k * 3 by omega, ← List.drop_drop]
    simpa using ih
set_option maxRecDepth 100000 in
set_option maxHeartbeats 4000000 in
theorem catalogue_any (w : World) : Calls Tryz.prog 13 #[] w fun e w' => e = .returned (.agg catC) ∧ Below w.heap.size w w' := by
  have hz := (zero_of_info zero_info).1
  go_enter Tryz.func13, Tryz.ntmps13
  simp only [List.append]
  go_wp2_with (first
    | (refine wpList_build rfl 41 _ rfl (by kernel_rfl) ?_)
    | (refine wpList_store_new rfl 41 _ _ rfl _ catC _ rfl rfl (by kernel_rfl) cat_info (by rw [catC_size]; decide +kernel) cat_one ?_))
  refine bodyPost_ret (v := .agg catC) (results_cell_row Tryz.results13 _ _ w.heap.size 41 catC (0, 0) _ rfl (heap_alloc_new w _) Tryz.underlying41 rfl cat_info) rfl ?_
  exact ⟨rfl, step (Below.refl _ w) _⟩
end Go.Proofs.YtgnmkhjilecdhaaGreatDoor.T9
namespace Go.Proofs.YtgnmkhjilecdhaaGreatDoor.T9
open Go.RowKit Go.Sort
set_option linter.unusedVariables false

theorem still_tail {P : Program} {id : Nat} {Q : Exit → Act → World → Prop} {a : Act} {w : World} {l : List Oper} (n : Nat) (hm : P.follows .mixedOrders = true) (hB : Region.lexTailB .any l.toArray n = true)
    (h : wpStill P l.toArray w.drew (fun a' => wpList P l.toArray Q (l.drop n) a' w.drew) (l.take n) a) : (Code.region id l.toArray true).wp P Q a w := wp_region_still_tail n hm hB h
def clsOf (f : Int) : Int := if f ≤ 35 then 1 else if f ≤ 41 then 2 else if f ≤ 46 then 3 else if f ≤ 50 then 4 else if f ≤ 53 then 5 else 6
theorem classOf_any (f : Int) (w : World) : Calls Tryz.prog 14 #[.int .i64 f] w fun e w' => e = .returned (.int .i64 (clsOf f)) ∧ w' = w := by
  go_enter Tryz.func14, Tryz.ntmps14
  go_wp2_with fail
  all_goals go_ret
  all_goals refine ⟨?_, rfl⟩
  all_goals (congr 2; unfold clsOf; simp [*] <;> omega)
/-- A function's row. -/
def rowOf (f : Int) : Option (ByteArray × Int × Int) := if 1 ≤ f ∧ f ≤ 76 then tab[(f - 1).toNat]? else none
theorem index76 (k : Nat) (hk : k < 76) (w : World) : (Instr.index 41 (.agg catC) (.int .i64 (k : Int))).run Tryz.prog w = .ok (.agg #[.string (tab[k]'(by rw [tab_len]; exact hk)).1, .int .i64 (tab[k]'(by rw [tab_len]; exact hk)).2.1, .int .i64 (tab[k]'(by rw [tab_len]; exact hk)).2.2]) w := by
  have h0 : 0 ≤ (k : Int) ∧ (k : Int) < 76 := by omega
  have hf := flat3 tab k (by rw [tab_len]; exact hk)
  simp [Instr.index, run_underlying Tryz.underlying41, asIntOf, h0, go_sem]
  rw [if_pos hk]
  have he : catC.extract (k * 3) (k * 3 + 3) = #[.string (tab[k]'(by rw [tab_len]; exact hk)).1, .int .i64 (tab[k]'(by rw [tab_len]; exact hk)).2.1, .int .i64 (tab[k]'(by rw [tab_len]; exact hk)).2.2] := by
    apply Array.ext'
    rw [Array.toList_extract, show catC.toList = catL by unfold catC; simp]
    rw [← hf]
    simp [List.extract, catL]
  rw [he]
abbrev fnV (n : ByteArray) (c mn mx : Int) : Value := .agg #[.string n, .int .i64 c, .int .i64 mn, .int .i64 mx]
set_option maxHeartbeats 1000000 in
set_option maxRecDepth 100000 in
theorem info_no (f : Int) (h : ¬ (1 ≤ f ∧ f ≤ 76)) (w : World) : Calls Tryz.prog 5 #[.int .i64 f] w fun e w' => e = .returned (.tuple #[fnV no 0 0 0, .int .i64 1]) ∧ Below w.heap.size w w' := by
  by_cases h1 : f < 1
  all_goals
    go_enter Tryz.func5, Tryz.ntmps5
    go_wp2_with fail
    refine bodyPost_ret (v := .tuple #[fnV no 0 0 0, .int .i64 1]) (by simp [results, Tryz.results5, go_sem]; try rfl) rfl ?_
    exact ⟨rfl, by go_grown⟩
set_option maxHeartbeats 1000000 in
set_option maxRecDepth 100000 in
theorem info_yes (k : Nat) (hk : k < 76) (w : World) : Calls Tryz.prog 5 #[.int .i64 ((k : Int) + 1)] w fun e w' => e = .returned (.tuple #[fnV (tab[k]'(by rw [tab_len]; exact hk)).1 (clsOf ((k : Int) + 1)) (tab[k]'(by rw [tab_len]; exact hk)).2.1 (tab[k]'(by rw [tab_len]; exact hk)).2.2, .int .i64 0]) ∧ Below w.heap.size w w' := by
  have HI := fun w => index76 k hk w
  generalize tab[k] = r at *
  obtain ⟨n, mn, mx⟩ := r
  have HC := hide (catalogue_any)
  have HK := hide (classOf_any ((k : Int) + 1))
  generalize clsOf ((k : Int) + 1) = cl at *
  have p1 : ¬ ((k : Int) + 1 < 1) := by omega
  have p2 : ¬ (76 < (k : Int) + 1) := by omega
  have p3 : (k : Int) + 1 - 1 = k := by omega
  have p4 := IntWalk.wrap64_in ((k : Int)) ⟨by omega, by omega⟩
  go_enter Tryz.func5, Tryz.ntmps5
  go_wp2_with (go_at_call 13; refine (HC.out _).mono ?_; rintro e w1 ⟨rfl, hb1⟩; have hlt := hb1.size; have Z := (Blk.new w #[.string no, .int .i64 0, .int .i64 0, .int .i64 0] 25).keep hb1; have z0 := Z.at' 0; have z1 := Z.at' 1; have z2 := Z.at' 2; have z3 := Z.at' 3; have y0 := Z.fr 0; have y1 := Z.fr 1; have y2 := Z.fr 2; have y3 := Z.fr 3; have zl := Z.lt; replace Z := hide Z; simp only [List.getElem?_toArray, List.getElem?_cons_zero, List.getElem?_cons_succ] at z0 z1 z2 z3; replace hb1 := hide (next (step (Below.refl _ w) _) hb1))
  refine still_tail 9 (by kernel_rfl) (by kernel_rfl) ?_
  simp only [List.take_succ_cons, List.take_zero, List.drop_succ_cons, List.drop_zero]
  repeat (first | still_step | still_call (HK.out _))
  refine wpStill_nil ?_
  go_wp2_with fail
  refine bodyPost_ret (v := .tuple #[fnV n cl mn mx, .int .i64 0]) (by simp [results, Tryz.results5, go_sem, z0, z1, z2, z3, zl]; try rfl) rfl ?_
  exact ⟨rfl, (step ((((hb1.out.setCell (p := ⟨w.heap.size, 0, none⟩) (Nat.le_refl _) _).setCell (p := ⟨w.heap.size, 1, none⟩) (Nat.le_refl _) _).setCell (p := ⟨w.heap.size, 2, none⟩) (Nat.le_refl _) _).setCell (p := ⟨w.heap.size, 3, none⟩) (Nat.le_refl _) _) _).drew⟩
/-- Does the function take so many? -/
def takesB (f n : Int) : Bool := if h : 1 ≤ f ∧ f ≤ 76 then (decide ((tab[(f - 1).toNat]'(by rw [tab_len]; omega)).2.1 ≤ n) && (decide (n ≤ (tab[(f - 1).toNat]'(by rw [tab_len]; omega)).2.2) || decide ((tab[(f - 1).toNat]'(by rw [tab_len]; omega)).2.2 < 0))) else false
end Go.Proofs.YtgnmkhjilecdhaaGreatDoor.T9
