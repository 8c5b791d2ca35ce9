/- Trees of formulas as Lean data, and where they lie in memory; small facts that the walks of package tree and of the document's own functions share. -/
import Derived.Test.YtiajoppbgebnpaaRows
import Derived.WalkKit
import Derived.WalkSpells
import Derived.WalkLawsBesides
import Derived.Deep.RegionWith
import Derived.Lib.QuietBelow
import Derived.BigQuiet
import Derived.Below
import Derived.Handy
import Derived.LoopTactic
import Derived.OwnWalk
import Derived.Laws.OwnMore
import Derived.Laws.EntriesVeiled
import Derived.Deep.MidRow
import Derived.Deep.WholeRow
namespace Go.Proofs.Ytiajoppbgebnpaa
open Go.RowKit Go.Sort
set_option linter.unusedVariables false

theorem hide {p : Prop} (h : p) : Hid p := h
theorem ret_bool {a b : Bool} (h : a = b) : Ending.returned (.bool a) = .returned (.bool b) := by rw [h]
theorem next {a w w' : World} (h : Below a.heap.size a w) (hb : Below w.heap.size w w') : Below a.heap.size a w' := h.trans (hb.mono h.size)
theorem step {a w : World} (h : Below a.heap.size a w) (o : Obj) : Below a.heap.size a (w.alloc o) := h.alloc h.size o
abbrev no : ByteArray := { data := #[] }
/-- A reference. -/
structure Rf where
  row : Int
  col : Int
  pr : Bool
  pc : Bool
/-- A node without its kids. -/
structure Nd where
  kind : Int
  op : Int
  num : Int
  text : ByteArray
  ref : Rf
  to : Rf
  fn : Int
/-- A tree. -/
inductive Ex where
  | mk (nd : Nd) (kids : List Ex)
def Ex.nd : Ex → Nd | .mk n _ => n
def Ex.kids : Ex → List Ex | .mk _ k => k
theorem Ex.ind {P : Ex → Prop} (h : ∀ nd ks, (∀ k ∈ ks, P k) → P (.mk nd ks)) (t : Ex) : P t :=
  Ex.rec (motive_1 := P) (motive_2 := fun ks => ∀ k ∈ ks, P k) (fun nd ks ih => h nd ks ih) (fun k hk => by cases hk) (fun t r iht ihr k hk => by
    rcases List.mem_cons.1 hk with rfl | hk
    · exact iht
    · exact ihr k hk) t
abbrev rfC (r : Rf) : List Value := [.int .i64 r.row, .int .i64 r.col, .bool r.pr, .bool r.pc]
abbrev rfV (r : Rf) : Value := .agg #[.int .i64 r.row, .int .i64 r.col, .bool r.pr, .bool r.pc]
/-- A node's cells, its kids' list as a value. -/
def exC (n : Nd) (s : Value) : Array Value :=
  #[.int .i64 n.kind, .int .i64 n.op, .int .i64 n.num, .string n.text, .int .i64 n.ref.row, .int .i64 n.ref.col, .bool n.ref.pr, .bool n.ref.pc, .int .i64 n.to.row, .int .i64 n.to.col, .bool n.to.pr, .bool n.to.pc, .int .i64 n.fn, s]
abbrev exV (n : Nd) (s : Value) : Value := .agg (exC n s)
abbrev exO (n : Nd) (s : Value) : Obj := .cells (exC n s) 37
theorem exC_size (n : Nd) (s : Value) : (exC n s).size = 14 := rfl
theorem exC_len (n : Nd) (s : Value) : (exC n s).toList.length = 14 := rfl
theorem exC_info (n : Nd) (s : Value) : (Try.prog.info? 37).map (·.size) = some (exC n s).size := by rw [exC_size]; kernel_rfl
theorem exC_infoL (n : Nd) (s : Value) : (Try.prog.info? 37).map (·.size) = some (exC n s).toList.length := by rw [exC_len]; kernel_rfl
theorem exC_one (n : Nd) (a : Option Addr) (l c : Nat) : (exC n (.slice a l c)).all (·.oneCell') = true := by simp [exC, Value.oneCell']
/-- What stands in each cell. -/
structure At14 (n : Nd) (s : Value) : Prop where
  c0 : (exC n s)[0]? = some (.int .i64 n.kind)
  c1 : (exC n s)[1]? = some (.int .i64 n.op)
  c2 : (exC n s)[2]? = some (.int .i64 n.num)
  c3 : (exC n s)[3]? = some (.string n.text)
  c4 : (exC n s)[4]? = some (.int .i64 n.ref.row)
  c5 : (exC n s)[5]? = some (.int .i64 n.ref.col)
  c6 : (exC n s)[6]? = some (.bool n.ref.pr)
  c7 : (exC n s)[7]? = some (.bool n.ref.pc)
  c8 : (exC n s)[8]? = some (.int .i64 n.to.row)
  c9 : (exC n s)[9]? = some (.int .i64 n.to.col)
  c10 : (exC n s)[10]? = some (.bool n.to.pr)
  c11 : (exC n s)[11]? = some (.bool n.to.pc)
  c12 : (exC n s)[12]? = some (.int .i64 n.fn)
  c13 : (exC n s)[13]? = some s
theorem at14 (n : Nd) (s : Value) : At14 n s := ⟨rfl, rfl, rfl, rfl, rfl, rfl, rfl, rfl, rfl, rfl, rfl, rfl, rfl, rfl⟩
/-- The block holds these cells. -/
def Blk (W : World) (B : Nat) (vs : Array Value) (t : TypeId) : Prop := W.heap[B]? = some (.cells vs t)
theorem Blk.lt {W : World} {B : Nat} {vs : Array Value} {t : TypeId} (h : Blk W B vs t) : B < W.heap.size := (Array.getElem?_eq_some_iff.1 h).1
theorem Blk.new (W : World) (vs : Array Value) (t : TypeId) : Blk (W.alloc (.cells vs t)) W.heap.size vs t := heap_alloc_new W _
theorem Blk.keep {W W' : World} {B : Nat} {vs : Array Value} {t : TypeId} (h : Blk W B vs t) (hb : Below W.heap.size W W') : Blk W' B vs t := (hb.block B h.lt).trans h
theorem Blk.alloc {W : World} {B : Nat} {vs : Array Value} {t : TypeId} (h : Blk W B vs t) (o : Obj) : Blk (W.alloc o) B vs t := h.keep ((Below.refl _ _).alloc (Nat.le_refl _) _)
theorem Blk.fr {W : World} {B : Nat} {vs : Array Value} {t : TypeId} (h : Blk W B vs t) (j : Nat) : W.frozen? ⟨B, j, none⟩ = false := by simp [World.frozen?, show W.heap[B]? = _ from h]
theorem Blk.at' {W : World} {B : Nat} {vs : Array Value} {t : TypeId} (h : Blk W B vs t) (j : Nat) : W.cell? ⟨B, j, none⟩ = vs[j]? := by simp [World.cell?, show W.heap[B]? = _ from h]
theorem Blk.new1 (W : World) (o : Obj) (vs : Array Value) (t : TypeId) : Blk ((W.alloc o).alloc (.cells vs t)) (W.heap.size + 1) vs t := by
  have := Blk.new (W.alloc o) vs t
  simpa only [World.size_alloc] using this
theorem Blk.new2 (W : World) (o o' : Obj) (vs : Array Value) (t : TypeId) : Blk (((W.alloc o).alloc o').alloc (.cells vs t)) (W.heap.size + 1 + 1) vs t := by
  have := Blk.new ((W.alloc o).alloc o') vs t
  simpa only [World.size_alloc] using this
theorem Blk.new3 (W : World) (o o' o'' : Obj) (vs : Array Value) (t : TypeId) : Blk ((((W.alloc o).alloc o').alloc o'').alloc (.cells vs t)) (W.heap.size + 1 + 1 + 1) vs t := by
  have := Blk.new (((W.alloc o).alloc o').alloc o'') vs t
  simpa only [World.size_alloc] using this
theorem Blk.one {W : World} {B : Nat} {v : Value} {t : TypeId} (h : Blk W B #[v] t) : W.cell? ⟨B, 0, none⟩ = some v := h.at' 0
theorem Blk.set {W : World} {B : Nat} {vs : Array Value} {t : TypeId} (h : Blk W B vs t) (j : Nat) (u : Value) : Blk (W.setCell ⟨B, j, none⟩ u) B (vs.setIfInBounds j u) t := by
  have hlt := h.lt
  have hget := (Array.getElem?_eq_some_iff.1 h).2
  unfold Blk World.setCell
  rw [Array.getElem?_eq_getElem (by simpa using hlt), Array.getElem_modify, if_pos rfl, hget]
  rfl
/-- Nothing is written but blocks of the kind. -/
structure Chg (m : Nat → Prop) (w w' : World) : Prop where
  os : w'.os = w.os
  tape : w'.tape = w.tape
  output : w'.output = w.output
  size : w.heap.size ≤ w'.heap.size
  block : ∀ k, k < w.heap.size → ¬ m k → w'.heap[k]? = w.heap[k]?
theorem Chg.refl (m : Nat → Prop) (w : World) : Chg m w w := ⟨rfl, rfl, rfl, Nat.le_refl _, fun _ _ _ => rfl⟩
theorem Chg.of_below {m : Nat → Prop} {w w' : World} (h : Below w.heap.size w w') : Chg m w w' := ⟨h.os, h.tape, h.output, h.size, fun k hk _ => h.block k hk⟩
theorem Chg.trans {m : Nat → Prop} {w w1 w2 : World} (h : Chg m w w1) (k : Chg m w1 w2) : Chg m w w2 := ⟨k.os.trans h.os, k.tape.trans h.tape, k.output.trans h.output, Nat.le_trans h.size k.size, fun j hj hm => (k.block j (Nat.lt_of_lt_of_le hj h.size) hm).trans (h.block j hj hm)⟩
theorem Chg.alloc {m : Nat → Prop} {w w' : World} (h : Chg m w w') (o : Obj) : Chg m w (w'.alloc o) := h.trans (.of_below ((Below.refl _ _).alloc (Nat.le_refl _) _))
theorem Chg.set {m : Nat → Prop} {w w' : World} (h : Chg m w w') (B j : Nat) (u : Value) (hm : m B) : Chg m w (w'.setCell ⟨B, j, none⟩ u) :=
  h.trans ⟨rfl, rfl, rfl, by simp, fun k _ hk => Below.heap_setCell _ _ _ k (fun e => hk (by rw [e]; exact hm))⟩
theorem Chg.blk {m : Nat → Prop} {w w' : World} (h : Chg m w w') {B : Nat} {vs : Array Value} {t : TypeId} (hb : Blk w B vs t) (hm : ¬ m B) : Blk w' B vs t := (h.block B hb.lt hm).trans hb
theorem Chg.below {m : Nat → Prop} {w w' : World} (h : Chg m w w') {N : Nat} (hN : N ≤ w.heap.size) (hm : ∀ k, m k → N ≤ k) : Below N w w' :=
  ⟨h.os, h.tape, h.output, h.size, fun k hk => h.block k (Nat.lt_of_lt_of_le hk hN) (fun e => absurd (hm k e) (Nat.not_le_of_lt hk))⟩
mutual
/-- The tree lies in memory, its lists in blocks of the kind; no text and no list is longer than any may be. -/
def In (m : Nat → Prop) (w : World) (v : Value) : Ex → Prop
  | .mk nd ks => ∃ a len cap, v = exV nd (.slice a len cap) ∧ len = ks.length ∧ len ≤ 4611686018427387904 ∧ nd.text.size ≤ 4611686018427387904 ∧ (len = 0 ∨ ∃ b o, a = some ⟨b, o, none⟩ ∧ m b ∧ Kids m w b o ks)
def Kids (m : Nat → Prop) (w : World) (b o : Nat) : List Ex → Prop
  | [] => True
  | k :: r => (∃ cs, In m w (.agg cs) k ∧ w.rangeAt b o cs.toList) ∧ Kids m w b (o + 14) r
end
theorem In.open {m : Nat → Prop} {w : World} {v : Value} {t : Ex} (h : In m w v t) :
    ∃ a len cap, v = exV t.nd (.slice a len cap) ∧ len = t.kids.length ∧ len ≤ 4611686018427387904 ∧ t.nd.text.size ≤ 4611686018427387904 ∧ (len = 0 ∨ ∃ b o, a = some ⟨b, o, none⟩ ∧ m b ∧ Kids m w b o t.kids) := by
  cases t; unfold In at h; exact h
theorem In.un {m : Nat → Prop} {w : World} {v : Value} {nd : Nd} {ks : List Ex} (h : In m w v (.mk nd ks)) :
    ∃ a len cap, v = exV nd (.slice a len cap) ∧ Hid (len = ks.length) ∧ Hid (len ≤ 4611686018427387904) ∧ Hid (nd.text.size ≤ 4611686018427387904) ∧ Hid (len = 0 ∨ ∃ b o, a = some ⟨b, o, none⟩ ∧ m b ∧ Kids m w b o ks) := by
  unfold In at h; exact h
theorem Kids.get {m : Nat → Prop} {w : World} {b : Nat} : ∀ {ks : List Ex} {o : Nat}, Kids m w b o ks → ∀ i (hi : i < ks.length), ∃ cs, In m w (.agg cs) ks[i] ∧ w.rangeAt b (o + i * 14) cs.toList
  | [], _, _, i, hi => absurd hi (Nat.not_lt_zero i)
  | k :: r, o, h, 0, _ => by unfold Kids at h; simpa using h.1
  | k :: r, o, h, i + 1, hi => by
    unfold Kids at h
    obtain ⟨cs, h1, h2⟩ := Kids.get h.2 i (by simpa using hi)
    exact ⟨cs, by simpa only [List.getElem_cons_succ] using h1, by rw [show o + (i + 1) * 14 = o + 14 + i * 14 by omega]; exact h2⟩
theorem Kids.of {m : Nat → Prop} {w : World} {b : Nat} : ∀ {ks : List Ex} {o : Nat}, (∀ i (hi : i < ks.length), ∃ cs, In m w (.agg cs) ks[i] ∧ w.rangeAt b (o + i * 14) cs.toList) → Kids m w b o ks
  | [], _, _ => by unfold Kids; trivial
  | k :: r, o, h => by
    unfold Kids
    refine ⟨by obtain ⟨cs, h1, h2⟩ := h 0 (by simp); exact ⟨cs, h1, by simpa using h2⟩, Kids.of fun i hi => ?_⟩
    obtain ⟨cs, h1, h2⟩ := h (i + 1) (by simpa using hi)
    exact ⟨cs, by simpa using h1, by rw [show o + 14 + i * 14 = o + (i + 1) * 14 by omega]; exact h2⟩
theorem range_of_block {w w' : World} {b o : Nat} {cs : List Value} (h : w.rangeAt b o cs) (e : w'.heap[b]? = w.heap[b]?) : w'.rangeAt b o cs := fun j v hv => by
  exact (World.cell?_of_block (w := w) e).trans (h j v hv)
/-- From world to world, where the blocks of the kind are the same. -/
theorem In.move {m m' : Nat → Prop} {w w' : World} (hm : ∀ k, m k → m' k ∧ w'.heap[k]? = w.heap[k]?) : ∀ (t : Ex) {v : Value}, In m w v t → In m' w' v t := by
  refine Ex.ind fun nd ks ih => ?_
  intro v h
  unfold In at h ⊢
  obtain ⟨a, len, cap, hv, hl, hb, ht, h⟩ := h
  refine ⟨a, len, cap, hv, hl, hb, ht, ?_⟩
  rcases h with h | ⟨b, o, ha, hmb, hk⟩
  · exact .inl h
  · refine .inr ⟨b, o, ha, (hm b hmb).1, Kids.of fun i hi => ?_⟩
    obtain ⟨cs, h1, h2⟩ := hk.get i hi
    exact ⟨cs, ih _ (List.getElem_mem hi) h1, range_of_block h2 (hm b hmb).2⟩
theorem In.low {N : Nat} {w w' : World} {v : Value} {t : Ex} (h : In (· < N) w v t) (hb : Below N w w') : In (· < N) w' v t := h.move (m' := (· < N)) (fun k hk => ⟨hk, hb.block k hk⟩)
theorem In.wide {m m' : Nat → Prop} {w : World} {v : Value} {t : Ex} (h : In m w v t) (hm : ∀ k, m k → m' k) : In m' w v t := h.move (fun k hk => ⟨hm k hk, rfl⟩)
theorem In.keep {m : Nat → Prop} {w w' : World} {v : Value} {t : Ex} (h : In m w v t) (hm : ∀ k, m k → k < w.heap.size) (hb : Below w.heap.size w w') : In m w' v t := h.move (fun k hk => ⟨hk, hb.block k (hm k hk)⟩)
/-- A whole struct stored into the block that was made last. -/
theorem wpList_store_new {P : Program} {ops : Array Oper} {rest : List Oper} {op : Oper} {a : Act} {w : World} {Q : Exit → Act → World → Prop} (hgd : op.guard = none) (ty : TypeId) (x y : Operand) (ho : op.op = .store ty x y)
    (c c' : Array Value) (g : Nat) (hx : a.eval x = .pointer (some ⟨g, 0, none⟩)) (hgw : g = w.heap.size) (hy : a.eval y = .agg c') (hi : (P.info? ty).map (·.size) = some c'.size) (hc : c.size = c'.size) (h1 : c'.all (·.oneCell') = true)
    (h : wpList P ops Q rest (a.put op.dst undef) (w.alloc (.cells c' ty))) : wpList P ops Q (op :: rest) a (w.alloc (.cells c ty)) :=
  wpList_plain hgd fun _ hK => by
    subst hgw
    unfold Oper.wp execOp
    simp only [ho, hx, hy, Sem.run_bind, run_storeAt_new (P := P) w ty c c' hi hc h1, Result.andThen_ok]
    exact hK _ _ h
/-- A whole struct out of the middle of a row. -/
theorem wpList_load_at {P : Program} {ops : Array Oper} {rest : List Oper} {op : Oper} {a : Act} {w : World} {Q : Exit → Act → World → Prop} (hgd : op.guard = none) (ty : TypeId) (x : Operand) (ho : op.op = .load ty x)
    (b o : Nat) (hx : a.eval x = .pointer (some ⟨b, o, none⟩)) (cs : Array Value) (d : TypeDesc) (hc : w.rangeAt b o cs.toList)
    (hu : P.underlying ty = some d) (hd : d.isRow = true) (hi : (P.info? ty).map (·.size) = some cs.size)
    (h : wpList P ops Q rest (a.put op.dst (.agg cs)) w) : wpList P ops Q (op :: rest) a w :=
  wpList_load_mid hgd ty x ho b o hx cs.toList d hc hu hd (by simpa using hi) (by simpa using h)
/-- A whole struct out of a block that holds just it. -/
theorem wpList_load_blk {P : Program} {ops : Array Oper} {rest : List Oper} {o : Oper} {a : Act} {w : World} {Q : Exit → Act → World → Prop} (hgd : o.guard = none) (ty : TypeId) (x : Operand) (ho : o.op = .load ty x)
    (g : Nat) (hx : a.eval x = .pointer (some ⟨g, 0, none⟩)) (cs : Array Value) (hg : Blk w g cs ty) (d : TypeDesc)
    (hu : P.underlying ty = some d) (hd : d.isRow = true) (hi : (P.info? ty).map (·.size) = some cs.size)
    (h : wpList P ops Q rest (a.put o.dst (.agg cs)) w) : wpList P ops Q (o :: rest) a w :=
  wpList_load_row hgd ty x ho g hx ty cs (0, 0) d hg hu (by cases d <;> simp_all) hi h
theorem ite_max (x y : Int) : (if x < y then y else x) = max x y := by split <;> omega
theorem enters {P : Program} {f : FuncId} {fn : Func} (hf : P.funcs[f]? = some fn) (hn : (fn.name == "runtime.NumGoroutine") = false) (hb : fn.body.isNone = false) (args : Array Value) (w : World) : (callFunc f args).run P w = .ok (.enter f args) w := by
  unfold callFunc
  rw [Sem.run_bind, show Sem.run P program w = .ok P w from rfl, Result.andThen_ok]
  simp only [hf, hn, hb]
  rfl
theorem In.cs {m : Nat → Prop} {w : World} {cs : Array Value} {t : Ex} (h : In m w (.agg cs) t) : ∃ a len cap, cs = exC t.nd (.slice a len cap) := by
  obtain ⟨a, len, cap, hv, _⟩ := h.open
  exact ⟨a, len, cap, by simpa [exV] using hv⟩
abbrev CallIs (f : Nat) (args : Array Value) (v : Value) : Prop := Hid (∀ w, Calls Try.prog f args w fun e w' => e = .returned v ∧ Below w.heap.size w w')
end Go.Proofs.Ytiajoppbgebnpaa
