/- Trees of formulas as Lean data, and where they lie in memory; small facts that the walks of package tree and of the document's own functions share. tree.over: a tree's nodes are shown one behind the other as long as the shown one wants it so. For whatever closure that keeps a state in blocks of its own. tree.over itself; tree.Size and isTooGreat. tree.Size's closure: nodes, depth and bytes are counted in three blocks. How great a tree is, and what counting its nodes one behind the other comes to. tree.Size and tree.isTooGreat: what they answer of every tree. -/
import Derived.Test.YtdlomdbmmhjppaaGreatDoorRows
import Derived.WalkKit
import Derived.WalkSpells
import Derived.WalkLawsBesides
import Derived.Deep.RegionWith
import Derived.Lib.QuietBelow
import Derived.BigQuiet
import Derived.Below
import Derived.Handy
import Derived.LoopTactic
import Derived.OwnWalk
import Derived.Laws.OwnMore
import Derived.Laws.EntriesVeiled
import Derived.Deep.MidRow
import Derived.Deep.WholeRow
namespace Go.Proofs.YtdlomdbmmhjppaaGreatDoor.T9
open Go.RowKit Go.Sort
set_option linter.unusedVariables false

theorem hide {p : Prop} (h : p) : Hid p := h
theorem ret_bool {a b : Bool} (h : a = b) : Ending.returned (.bool a) = .returned (.bool b) := by rw [h]
theorem next {a w w' : World} (h : Below a.heap.size a w) (hb : Below w.heap.size w w') : Below a.heap.size a w' := h.trans (hb.mono h.size)
theorem step {a w : World} (h : Below a.heap.size a w) (o : Obj) : Below a.heap.size a (w.alloc o) := h.alloc h.size o
abbrev no : ByteArray := { data := #[] }
/-- A reference. -/
structure Rf where
  row : Int
  col : Int
  pr : Bool
  pc : Bool
/-- A node without its kids. -/
structure Nd where
  kind : Int
  op : Int
  num : Int
  text : ByteArray
  ref : Rf
  to : Rf
  fn : Int
/-- A tree. -/
inductive Ex where
  | mk (nd : Nd) (kids : List Ex)
def Ex.nd : Ex → Nd | .mk n _ => n
def Ex.kids : Ex → List Ex | .mk _ k => k
theorem Ex.ind {P : Ex → Prop} (h : ∀ nd ks, (∀ k ∈ ks, P k) → P (.mk nd ks)) (t : Ex) : P t :=
  Ex.rec (motive_1 := P) (motive_2 := fun ks => ∀ k ∈ ks, P k) (fun nd ks ih => h nd ks ih) (fun k hk => by cases hk) (fun t r iht ihr k hk => by
    rcases List.mem_cons.1 hk with rfl | hk
    · exact iht
    · exact ihr k hk) t
abbrev rfC (r : Rf) : List Value := [.int .i64 r.row, .int .i64 r.col, .bool r.pr, .bool r.pc]
abbrev rfV (r : Rf) : Value := .agg #[.int .i64 r.row, .int .i64 r.col, .bool r.pr, .bool r.pc]
/-- A node's cells, its kids' list as a value. -/
def exC (n : Nd) (s : Value) : Array Value :=
  #[.int .i64 n.kind, .int .i64 n.op, .int .i64 n.num, .string n.text, .int .i64 n.ref.row, .int .i64 n.ref.col, .bool n.ref.pr, .bool n.ref.pc, .int .i64 n.to.row, .int .i64 n.to.col, .bool n.to.pr, .bool n.to.pc, .int .i64 n.fn, s]
abbrev exV (n : Nd) (s : Value) : Value := .agg (exC n s)
abbrev exO (n : Nd) (s : Value) : Obj := .cells (exC n s) 30
theorem exC_size (n : Nd) (s : Value) : (exC n s).size = 14 := rfl
theorem exC_len (n : Nd) (s : Value) : (exC n s).toList.length = 14 := rfl
theorem exC_info (n : Nd) (s : Value) : (Tryz.prog.info? 30).map (·.size) = some (exC n s).size := by rw [exC_size]; kernel_rfl
theorem exC_infoL (n : Nd) (s : Value) : (Tryz.prog.info? 30).map (·.size) = some (exC n s).toList.length := by rw [exC_len]; kernel_rfl
theorem exC_one (n : Nd) (a : Option Addr) (l c : Nat) : (exC n (.slice a l c)).all (·.oneCell') = true := by simp [exC, Value.oneCell']
/-- What stands in each cell. -/
structure At14 (n : Nd) (s : Value) : Prop where
  c0 : (exC n s)[0]? = some (.int .i64 n.kind)
  c1 : (exC n s)[1]? = some (.int .i64 n.op)
  c2 : (exC n s)[2]? = some (.int .i64 n.num)
  c3 : (exC n s)[3]? = some (.string n.text)
  c4 : (exC n s)[4]? = some (.int .i64 n.ref.row)
  c5 : (exC n s)[5]? = some (.int .i64 n.ref.col)
  c6 : (exC n s)[6]? = some (.bool n.ref.pr)
  c7 : (exC n s)[7]? = some (.bool n.ref.pc)
  c8 : (exC n s)[8]? = some (.int .i64 n.to.row)
  c9 : (exC n s)[9]? = some (.int .i64 n.to.col)
  c10 : (exC n s)[10]? = some (.bool n.to.pr)
  c11 : (exC n s)[11]? = some (.bool n.to.pc)
  c12 : (exC n s)[12]? = some (.int .i64 n.fn)
  c13 : (exC n s)[13]? = some s
theorem at14 (n : Nd) (s : Value) : At14 n s := ⟨rfl, rfl, rfl, rfl, rfl, rfl, rfl, rfl, rfl, rfl, rfl, rfl, rfl, rfl⟩
/-- The block holds these cells. -/
def Blk (W : World) (B : Nat) (vs : Array Value) (t : TypeId) : Prop := W.heap[B]? = some (.cells vs t)
theorem Blk.lt {W : World} {B : Nat} {vs : Array Value} {t : TypeId} (h : Blk W B vs t) : B < W.heap.size := (Array.getElem?_eq_some_iff.1 h).1
theorem Blk.new (W : World) (vs : Array Value) (t : TypeId) : Blk (W.alloc (.cells vs t)) W.heap.size vs t := heap_alloc_new W _
theorem Blk.keep {W W' : World} {B : Nat} {vs : Array Value} {t : TypeId} (h : Blk W B vs t) (hb : Below W.heap.size W W') : Blk W' B vs t := (hb.block B h.lt).trans h
theorem Blk.alloc {W : World} {B : Nat} {vs : Array Value} {t : TypeId} (h : Blk W B vs t) (o : Obj) : Blk (W.alloc o) B vs t := h.keep ((Below.refl _ _).alloc (Nat.le_refl _) _)
theorem Blk.fr {W : World} {B : Nat} {vs : Array Value} {t : TypeId} (h : Blk W B vs t) (j : Nat) : W.frozen? ⟨B, j, none⟩ = false := by simp [World.frozen?, show W.heap[B]? = _ from h]
theorem Blk.at' {W : World} {B : Nat} {vs : Array Value} {t : TypeId} (h : Blk W B vs t) (j : Nat) : W.cell? ⟨B, j, none⟩ = vs[j]? := by simp [World.cell?, show W.heap[B]? = _ from h]
theorem Blk.new1 (W : World) (o : Obj) (vs : Array Value) (t : TypeId) : Blk ((W.alloc o).alloc (.cells vs t)) (W.heap.size + 1) vs t := by
  have := Blk.new (W.alloc o) vs t
  simpa only [World.size_alloc] using this
theorem Blk.new2 (W : World) (o o' : Obj) (vs : Array Value) (t : TypeId) : Blk (((W.alloc o).alloc o').alloc (.cells vs t)) (W.heap.size + 1 + 1) vs t := by
  have := Blk.new ((W.alloc o).alloc o') vs t
  simpa only [World.size_alloc] using this
theorem Blk.new3 (W : World) (o o' o'' : Obj) (vs : Array Value) (t : TypeId) : Blk ((((W.alloc o).alloc o').alloc o'').alloc (.cells vs t)) (W.heap.size + 1 + 1 + 1) vs t := by
  have := Blk.new (((W.alloc o).alloc o').alloc o'') vs t
  simpa only [World.size_alloc] using this
theorem Blk.one {W : World} {B : Nat} {v : Value} {t : TypeId} (h : Blk W B #[v] t) : W.cell? ⟨B, 0, none⟩ = some v := h.at' 0
theorem Blk.set {W : World} {B : Nat} {vs : Array Value} {t : TypeId} (h : Blk W B vs t) (j : Nat) (u : Value) : Blk (W.setCell ⟨B, j, none⟩ u) B (vs.setIfInBounds j u) t := by
  have hlt := h.lt
  have hget := (Array.getElem?_eq_some_iff.1 h).2
  unfold Blk World.setCell
  rw [Array.getElem?_eq_getElem (by simpa using hlt), Array.getElem_modify, if_pos rfl, hget]
  rfl
/-- Nothing is written but blocks of the kind. -/
structure Chg (m : Nat → Prop) (w w' : World) : Prop where
  os : w'.os = w.os
  tape : w'.tape = w.tape
  output : w'.output = w.output
  size : w.heap.size ≤ w'.heap.size
  block : ∀ k, k < w.heap.size → ¬ m k → w'.heap[k]? = w.heap[k]?
theorem Chg.refl (m : Nat → Prop) (w : World) : Chg m w w := ⟨rfl, rfl, rfl, Nat.le_refl _, fun _ _ _ => rfl⟩
theorem Chg.of_below {m : Nat → Prop} {w w' : World} (h : Below w.heap.size w w') : Chg m w w' := ⟨h.os, h.tape, h.output, h.size, fun k hk _ => h.block k hk⟩
theorem Chg.trans {m : Nat → Prop} {w w1 w2 : World} (h : Chg m w w1) (k : Chg m w1 w2) : Chg m w w2 := ⟨k.os.trans h.os, k.tape.trans h.tape, k.output.trans h.output, Nat.le_trans h.size k.size, fun j hj hm => (k.block j (Nat.lt_of_lt_of_le hj h.size) hm).trans (h.block j hj hm)⟩
theorem Chg.alloc {m : Nat → Prop} {w w' : World} (h : Chg m w w') (o : Obj) : Chg m w (w'.alloc o) := h.trans (.of_below ((Below.refl _ _).alloc (Nat.le_refl _) _))
theorem Chg.set {m : Nat → Prop} {w w' : World} (h : Chg m w w') (B j : Nat) (u : Value) (hm : m B) : Chg m w (w'.setCell ⟨B, j, none⟩ u) :=
  h.trans ⟨rfl, rfl, rfl, by simp, fun k _ hk => Below.heap_setCell _ _ _ k (fun e => hk (by rw [e]; exact hm))⟩
theorem Chg.blk {m : Nat → Prop} {w w' : World} (h : Chg m w w') {B : Nat} {vs : Array Value} {t : TypeId} (hb : Blk w B vs t) (hm : ¬ m B) : Blk w' B vs t := (h.block B hb.lt hm).trans hb
theorem Chg.below {m : Nat → Prop} {w w' : World} (h : Chg m w w') {N : Nat} (hN : N ≤ w.heap.size) (hm : ∀ k, m k → N ≤ k) : Below N w w' :=
  ⟨h.os, h.tape, h.output, h.size, fun k hk => h.block k (Nat.lt_of_lt_of_le hk hN) (fun e => absurd (hm k e) (Nat.not_le_of_lt hk))⟩
mutual
/-- The tree lies in memory, its lists in blocks of the kind; no text and no list is longer than any may be. -/
def In (m : Nat → Prop) (w : World) (v : Value) : Ex → Prop
  | .mk nd ks => ∃ a len cap, v = exV nd (.slice a len cap) ∧ len = ks.length ∧ len ≤ 4611686018427387904 ∧ nd.text.size ≤ 4611686018427387904 ∧ (len = 0 ∨ ∃ b o, a = some ⟨b, o, none⟩ ∧ m b ∧ Kids m w b o ks)
def Kids (m : Nat → Prop) (w : World) (b o : Nat) : List Ex → Prop
  | [] => True
  | k :: r => (∃ cs, In m w (.agg cs) k ∧ w.rangeAt b o cs.toList) ∧ Kids m w b (o + 14) r
end
theorem In.open {m : Nat → Prop} {w : World} {v : Value} {t : Ex} (h : In m w v t) :
    ∃ a len cap, v = exV t.nd (.slice a len cap) ∧ len = t.kids.length ∧ len ≤ 4611686018427387904 ∧ t.nd.text.size ≤ 4611686018427387904 ∧ (len = 0 ∨ ∃ b o, a = some ⟨b, o, none⟩ ∧ m b ∧ Kids m w b o t.kids) := by
  cases t; unfold In at h; exact h
theorem In.un {m : Nat → Prop} {w : World} {v : Value} {nd : Nd} {ks : List Ex} (h : In m w v (.mk nd ks)) :
    ∃ a len cap, v = exV nd (.slice a len cap) ∧ Hid (len = ks.length) ∧ Hid (len ≤ 4611686018427387904) ∧ Hid (nd.text.size ≤ 4611686018427387904) ∧ Hid (len = 0 ∨ ∃ b o, a = some ⟨b, o, none⟩ ∧ m b ∧ Kids m w b o ks) := by
  unfold In at h; exact h
theorem Kids.get {m : Nat → Prop} {w : World} {b : Nat} : ∀ {ks : List Ex} {o : Nat}, Kids m w b o ks → ∀ i (hi : i < ks.length), ∃ cs, In m w (.agg cs) ks[i] ∧ w.rangeAt b (o + i * 14) cs.toList
  | [], _, _, i, hi => absurd hi (Nat.not_lt_zero i)
  | k :: r, o, h, 0, _ => by unfold Kids at h; simpa using h.1
  | k :: r, o, h, i + 1, hi => by
    unfold Kids at h
    obtain ⟨cs, h1, h2⟩ := Kids.get h.2 i (by simpa using hi)
    exact ⟨cs, by simpa only [List.getElem_cons_succ] using h1, by rw [show o + (i + 1) * 14 = o + 14 + i * 14 by omega]; exact h2⟩
theorem Kids.of {m : Nat → Prop} {w : World} {b : Nat} : ∀ {ks : List Ex} {o : Nat}, (∀ i (hi : i < ks.length), ∃ cs, In m w (.agg cs) ks[i] ∧ w.rangeAt b (o + i * 14) cs.toList) → Kids m w b o ks
  | [], _, _ => by unfold Kids; trivial
  | k :: r, o, h => by
    unfold Kids
    refine ⟨by obtain ⟨cs, h1, h2⟩ := h 0 (by simp); exact ⟨cs, h1, by simpa using h2⟩, Kids.of fun i hi => ?_⟩
    obtain ⟨cs, h1, h2⟩ := h (i + 1) (by simpa using hi)
    exact ⟨cs, by simpa using h1, by rw [show o + 14 + i * 14 = o + (i + 1) * 14 by omega]; exact h2⟩
theorem range_of_block {w w' : World} {b o : Nat} {cs : List Value} (h : w.rangeAt b o cs) (e : w'.heap[b]? = w.heap[b]?) : w'.rangeAt b o cs := fun j v hv => by
  exact (World.cell?_of_block (w := w) e).trans (h j v hv)
/-- From world to world, where the blocks of the kind are the same. -/
theorem In.move {m m' : Nat → Prop} {w w' : World} (hm : ∀ k, m k → m' k ∧ w'.heap[k]? = w.heap[k]?) : ∀ (t : Ex) {v : Value}, In m w v t → In m' w' v t := by
  refine Ex.ind fun nd ks ih => ?_
  intro v h
  unfold In at h ⊢
  obtain ⟨a, len, cap, hv, hl, hb, ht, h⟩ := h
  refine ⟨a, len, cap, hv, hl, hb, ht, ?_⟩
  rcases h with h | ⟨b, o, ha, hmb, hk⟩
  · exact .inl h
  · refine .inr ⟨b, o, ha, (hm b hmb).1, Kids.of fun i hi => ?_⟩
    obtain ⟨cs, h1, h2⟩ := hk.get i hi
    exact ⟨cs, ih _ (List.getElem_mem hi) h1, range_of_block h2 (hm b hmb).2⟩
theorem In.low {N : Nat} {w w' : World} {v : Value} {t : Ex} (h : In (· < N) w v t) (hb : Below N w w') : In (· < N) w' v t := h.move (m' := (· < N)) (fun k hk => ⟨hk, hb.block k hk⟩)
theorem In.wide {m m' : Nat → Prop} {w : World} {v : Value} {t : Ex} (h : In m w v t) (hm : ∀ k, m k → m' k) : In m' w v t := h.move (fun k hk => ⟨hm k hk, rfl⟩)
theorem In.keep {m : Nat → Prop} {w w' : World} {v : Value} {t : Ex} (h : In m w v t) (hm : ∀ k, m k → k < w.heap.size) (hb : Below w.heap.size w w') : In m w' v t := h.move (fun k hk => ⟨hk, hb.block k (hm k hk)⟩)
/-- A whole struct stored into the block that was made last. -/
theorem wpList_store_new {P : Program} {ops : Array Oper} {rest : List Oper} {op : Oper} {a : Act} {w : World} {Q : Exit → Act → World → Prop} (hgd : op.guard = none) (ty : TypeId) (x y : Operand) (ho : op.op = .store ty x y)
    (c c' : Array Value) (g : Nat) (hx : a.eval x = .pointer (some ⟨g, 0, none⟩)) (hgw : g = w.heap.size) (hy : a.eval y = .agg c') (hi : (P.info? ty).map (·.size) = some c'.size) (hc : c.size = c'.size) (h1 : c'.all (·.oneCell') = true)
    (h : wpList P ops Q rest (a.put op.dst undef) (w.alloc (.cells c' ty))) : wpList P ops Q (op :: rest) a (w.alloc (.cells c ty)) :=
  wpList_plain hgd fun _ hK => by
    subst hgw
    unfold Oper.wp execOp
    simp only [ho, hx, hy, Sem.run_bind, run_storeAt_new (P := P) w ty c c' hi hc h1, Result.andThen_ok]
    exact hK _ _ h
/-- A whole struct out of the middle of a row. -/
theorem wpList_load_at {P : Program} {ops : Array Oper} {rest : List Oper} {op : Oper} {a : Act} {w : World} {Q : Exit → Act → World → Prop} (hgd : op.guard = none) (ty : TypeId) (x : Operand) (ho : op.op = .load ty x)
    (b o : Nat) (hx : a.eval x = .pointer (some ⟨b, o, none⟩)) (cs : Array Value) (d : TypeDesc) (hc : w.rangeAt b o cs.toList)
    (hu : P.underlying ty = some d) (hd : d.isRow = true) (hi : (P.info? ty).map (·.size) = some cs.size)
    (h : wpList P ops Q rest (a.put op.dst (.agg cs)) w) : wpList P ops Q (op :: rest) a w :=
  wpList_load_mid hgd ty x ho b o hx cs.toList d hc hu hd (by simpa using hi) (by simpa using h)
/-- A whole struct out of a block that holds just it. -/
theorem wpList_load_blk {P : Program} {ops : Array Oper} {rest : List Oper} {o : Oper} {a : Act} {w : World} {Q : Exit → Act → World → Prop} (hgd : o.guard = none) (ty : TypeId) (x : Operand) (ho : o.op = .load ty x)
    (g : Nat) (hx : a.eval x = .pointer (some ⟨g, 0, none⟩)) (cs : Array Value) (hg : Blk w g cs ty) (d : TypeDesc)
    (hu : P.underlying ty = some d) (hd : d.isRow = true) (hi : (P.info? ty).map (·.size) = some cs.size)
    (h : wpList P ops Q rest (a.put o.dst (.agg cs)) w) : wpList P ops Q (o :: rest) a w :=
  wpList_load_row hgd ty x ho g hx ty cs (0, 0) d hg hu (by cases d <;> simp_all) hi h
theorem ite_max (x y : Int) : (if x < y then y else x) = max x y := by split <;> omega
theorem enters {P : Program} {f : FuncId} {fn : Func} (hf : P.funcs[f]? = some fn) (hn : (fn.name == "runtime.NumGoroutine") = false) (hb : fn.body.isNone = false) (args : Array Value) (w : World) : (callFunc f args).run P w = .ok (.enter f args) w := by
  unfold callFunc
  rw [Sem.run_bind, show Sem.run P program w = .ok P w from rfl, Result.andThen_ok]
  simp only [hf, hn, hb]
  rfl
theorem In.cs {m : Nat → Prop} {w : World} {cs : Array Value} {t : Ex} (h : In m w (.agg cs) t) : ∃ a len cap, cs = exC t.nd (.slice a len cap) := by
  obtain ⟨a, len, cap, hv, _⟩ := h.open
  exact ⟨a, len, cap, by simpa [exV] using hv⟩
abbrev CallIs (f : Nat) (args : Array Value) (v : Value) : Prop := Hid (∀ w, Calls Tryz.prog f args w fun e w' => e = .returned v ∧ Below w.heap.size w w')
end Go.Proofs.YtdlomdbmmhjppaaGreatDoor.T9
namespace Go.Proofs.YtdlomdbmmhjppaaGreatDoor.T9
open Go.RowKit Go.Sort
set_option linter.unusedVariables false

mutual
/-- What is left behind a going over: did it see all, and the state. -/
def goE {σ : Type} (st : σ → Nd → Nat → Int → Bool × σ) (d : Int) : Ex → σ → Bool × σ
  | .mk nd ks, s => if (st s nd ks.length d).1 then goL st (d + 1) ks (st s nd ks.length d).2 else (false, (st s nd ks.length d).2)
def goL {σ : Type} (st : σ → Nd → Nat → Int → Bool × σ) (d : Int) : List Ex → σ → Bool × σ
  | [], s => (true, s)
  | k :: r, s => if (goE st d k s).1 then goL st d r (goE st d k s).2 else (false, (goE st d k s).2)
end
theorem goE_eq {σ : Type} (st : σ → Nd → Nat → Int → Bool × σ) (d : Int) (t : Ex) (s : σ) : goE st d t s = if (st s t.nd t.kids.length d).1 then goL st (d + 1) t.kids (st s t.nd t.kids.length d).2 else (false, (st s t.nd t.kids.length d).2) := by
  cases t; rw [goE]; rfl
theorem goL_at {σ : Type} (st : σ → Nd → Nat → Int → Bool × σ) (d : Int) (ks : List Ex) (i : Nat) (hi : i < ks.length) (s : σ) : goL st d (ks.drop i) s = if (goE st d ks[i] s).1 then goL st d (ks.drop (i + 1)) (goE st d ks[i] s).2 else (false, (goE st d ks[i] s).2) := by
  rw [List.drop_eq_getElem_cons hi, goL]
theorem goL_end {σ : Type} (st : σ → Nd → Nat → Int → Bool × σ) (d : Int) (ks : List Ex) (s : σ) : goL st d (ks.drop ks.length) s = (true, s) := by
  rw [List.drop_length, goL]
/-- What the closure keeps to: the state lies in blocks of the kind, and nothing else is written. -/
structure See {σ : Type} (S : σ → World → Prop) (m : Nat → Prop) (st : σ → Nd → Nat → Int → Bool × σ) (f : Nat) (caps : Array Value) : Prop where
  call : ∀ s nd a len cap d w, S s w → Calls Tryz.prog f (#[exV nd (.slice a len cap), .int .i64 d] ++ caps) w fun e w' => e = .returned (.bool (st s nd len d).1) ∧ S (st s nd len d).2 w' ∧ Chg m w w'
  ent : ∀ args w, (callFunc f args).run Tryz.prog w = .ok (.enter f args) w
  lt : ∀ s w, S s w → ∀ k, m k → k < w.heap.size
  same : ∀ s w w', S s w → (∀ k, m k → k < w.heap.size → w'.heap[k]? = w.heap[k]?) → S s w'
/-- Where the two boxes lie. -/
structure Box9 (m : Nat → Prop) (f : Nat) (caps : Array Value) (Bs Bv : Nat) (w : World) : Prop where
  s : Blk w Bs #[.func (.func f) #[] caps] 69
  v : Blk w Bv #[.func (.func 55) #[] #[.pointer (some ⟨Bs, 0, none⟩), .pointer (some ⟨Bv, 0, none⟩)]] 69
  ns : ¬ m Bs
  nv : ¬ m Bv
theorem Box9.move {m : Nat → Prop} {f : Nat} {caps : Array Value} {Bs Bv : Nat} {w w' : World} (h : Box9 m f caps Bs Bv w) (c : Chg m w w') : Box9 m f caps Bs Bv w' := ⟨c.blk h.s h.ns, c.blk h.v h.nv, h.ns, h.nv⟩
set_option maxHeartbeats 1000000 in
set_option maxRecDepth 100000 in
theorem visit_any {σ : Type} {S : σ → World → Prop} {m : Nat → Prop} {st : σ → Nd → Nat → Int → Bool × σ} {f : Nat} {caps : Array Value} (HS : See S m st f caps) (Bs Bv N : Nat) (hm : ∀ k, m k → N ≤ k)
    (G : Int → Ex → Prop) (hG : ∀ d t s, G d t → (st s t.nd t.kids.length d).1 = true → -9223372036854775808 ≤ d + 1 ∧ d + 1 ≤ 9223372036854775807 ∧ ∀ k ∈ t.kids, G (d + 1) k) :
    ∀ (t : Ex) (v : Value) (d : Int) (s : σ) (w : World), G d t → In (· < N) w v t → N ≤ w.heap.size → S s w → Box9 m f caps Bs Bv w →
      Calls Tryz.prog 55 #[v, .int .i64 d, .pointer (some ⟨Bs, 0, none⟩), .pointer (some ⟨Bv, 0, none⟩)] w fun e w' => e = .returned (.bool (goE st d t s).1) ∧ S (goE st d t s).2 w' ∧ Chg m w w' := by
  refine Ex.ind fun nd ks ih => ?_
  intro v d s w hGd hin hN hS hbx
  obtain ⟨a, len, cap, rfl, hlen, hll, htx, hk⟩ := hin.un
  have hGd := hide hGd
  have hN := hide hN
  have hS := hide hS
  have hbx := hide hbx
  have hin := hide hin
  have hm := hide hm
  have hG := hide hG
  have ih := hide ih
  have A := at14 nd (.slice a len cap)
  have cs := (hbx.out.s.alloc (exO nd (.slice a len cap))).one
  have cv := (hbx.out.v.alloc (exO nd (.slice a len cap))).one
  have c13 := A.c13
  have H1 := hide (HS.call s nd a len cap d)
  have hent := HS.ent
  have HS := hide HS
  clear A
  go_enter Tryz.func55, Tryz.ntmps55
  go_wp2_with (refine wpList_load_row rfl 30 _ rfl _ rfl 30 _ (0, 0) _ (heap_alloc_new _ _) Tryz.underlying30 rfl (exC_info _ _) ?_)
  refine (H1.out _ (HS.out.same _ _ _ hS.out (fun k hk hlt => Below.heap_alloc w _ k hlt))).mono ?_
  rintro e w1 ⟨rfl, hS1, hc1⟩
  have hb0 := hc1.blk (Blk.new w (exC nd (.slice a len cap)) 30) (fun e => Nat.lt_irrefl _ (HS.out.lt _ _ hS.out _ e))
  have hc1 := hide ((Chg.of_below ((Below.refl _ _).alloc (Nat.le_refl _) _) : Chg m w _).trans hc1)
  have hS1 := hide hS1
  have hbx1 := hide (hbx.out.move hc1.out)
  have d13 := (hb0.at' 13).trans c13
  have hb0 := hide hb0
  have hgo := hide (goE_eq st d (.mk nd ks) s)
  have hlen' := hide hlen.out
  cases hq : (st s nd len d).1
  · go_wp2_with fail
    go_ret
    have hgo' : goE st d (.mk nd ks) s = (false, (st s nd len d).2) := by
      rw [hgo.out]; show (if (st s nd ks.length d).1 = true then goL st (d + 1) ks (st s nd ks.length d).2 else (false, (st s nd ks.length d).2)) = _; rw [← hlen.out, hq]; rfl
    rw [hgo']
    exact ⟨rfl, hS1.out, hc1.out⟩
  · have hgo' : goE st d (.mk nd ks) s = goL st (d + 1) ks (st s nd len d).2 := by
      rw [hgo.out]; show (if (st s nd ks.length d).1 = true then goL st (d + 1) ks (st s nd ks.length d).2 else (false, (st s nd ks.length d).2)) = _; rw [← hlen.out, hq]; rfl
    obtain ⟨hd1, hd2, hGk⟩ := hG.out d (.mk nd ks) s hGd.out (by show (st s nd ks.length d).1 = true; rw [← hlen.out]; exact hq)
    have hgo' := hide hgo'
    have hd := hide (IntWalk.wrap64_in _ ⟨hd1, hd2⟩)
    have hGk := hide hGk
    clear hd1 hd2
    generalize (st s nd len d).2 = s1 at *
    go_wp2_with fail
    go_loopw [17] (fun i wr => ∃ (k : Nat) (sk : σ), k ≤ len ∧ i = .int .i64 k ∧ Hid (S sk wr) ∧ Hid (Chg m w wr) ∧ Hid (goE st d (.mk nd ks) s = goL st (d + 1) (ks.drop k) sk)) (fun i _ => len - (intOf i).toNat)
    case atStart => exact ⟨0, s1, Nat.zero_le _, rfl, hS1, hc1, hgo'⟩
    case round =>
      obtain ⟨k, sk, hkl, rfl, HSk, HCk, HGk⟩ := hrel
      by_cases hlt : k < len
      · have p0 : (k : Int) < (len : Int) := by omega
        obtain ⟨b, o, rfl, hbN, hkid⟩ : ∃ b o, a = some ⟨b, o, none⟩ ∧ b < N ∧ Kids (· < N) w b o ks := by rcases hk.out with h | h; omega; exact h
        obtain ⟨csk, hik, hrk⟩ := hkid.get k (by rw [← hlen.out]; exact hlt)
        have hrk := (range_of_block hrk (HCk.out.block b (Nat.lt_of_lt_of_le hbN hN.out) (fun e => absurd (hm.out _ e) (Nat.not_le_of_lt hbN))))
        have hGi := hGk.out _ (List.getElem_mem (by rw [← hlen.out]; exact hlt : k < ks.length))
        have ihk := ih.out _ (List.getElem_mem (by rw [← hlen.out]; exact hlt : k < ks.length))
        have hat := goL_at st (d + 1) ks k (by rw [← hlen.out]; exact hlt) sk
        obtain ⟨ak, lk, ck, rfl⟩ := hik.cs
        generalize ks[k] = tk at *
        have hbxk := hide (hbx.out.move HCk.out)
        have hcw := hide ((Chg.refl m wr).alloc (exO tk.nd (.slice ak lk ck)))
        have hbxa := hide (hbxk.out.move hcw.out)
        have cvk := (hbxk.out.v.alloc (exO tk.nd (.slice ak lk ck))).one
        have IH := hide (ihk _ (d + 1) sk (wr.alloc (exO tk.nd (.slice ak lk ck))) hGi (hik.low (((HCk.out.below hN.out hm.out)).alloc (Nat.le_trans hN.out HCk.out.size) _)) (Nat.le_trans hN.out (Nat.le_trans HCk.out.size (by simp))) (HS.out.same _ _ _ HSk.out (fun k hk hlt => Below.heap_alloc wr _ k hlt)) hbxa.out)
        have hat := hide hat
        have hki := hide hkl
        have wk := IntWalk.wrap64_in ((k : Int) + 1) ⟨by omega, by have := hll.out; omega⟩
        clear hik ihk hGi hkid hbN hkl
        have hd' := hd.out
        go_wp2_with (first
          | (refine wpList_load_row rfl 30 _ rfl _ rfl 30 _ (0, 0) _ (heap_alloc_new _ _) Tryz.underlying30 rfl (exC_info _ _) ?_)
          | (refine wpList_load_at rfl 30 _ rfl _ _ rfl _ _ hrk Tryz.underlying30 rfl (exC_info _ _) ?_)
          | (refine wpList_store_new rfl 30 _ _ rfl _ (exC tk.nd (.slice ak lk ck)) _ rfl rfl rfl (exC_info _ _) (by rfl) (exC_one _ _ _ _) ?_)
          | (go_at_call 55; refine (IH.out).mono ?_; rintro e w2 ⟨rfl, hS2, hc2⟩; have hS2 := hide hS2; have hc2 := hide (hcw.out.trans hc2); cases hq2 : (goE st (d + 1) tk sk).1))
        case roundEnd =>
          refine ⟨⟨k + 1, _, hlt, by rw [wk]; rfl, hS2, hide (HCk.out.trans hc2.out), hide (by rw [HGk.out, hat.out, hq2]; rfl)⟩, ?_⟩
          rw [wk]
          show len - ((k : Int) + 1).toNat < len - (k : Int).toNat
          omega
        · go_ret
          have hh := HGk.out.trans hat.out
          rw [hq2] at hh
          rw [hh]
          exact ⟨rfl, hS2.out, HCk.out.trans hc2.out⟩
      · obtain rfl : k = len := by omega
        go_wp2_with fail
        go_ret
        have hh := HGk.out
        rw [hlen.out, goL_end] at hh
        rw [hh]
        exact ⟨rfl, HSk.out, HCk.out⟩
end Go.Proofs.YtdlomdbmmhjppaaGreatDoor.T9
namespace Go.Proofs.YtdlomdbmmhjppaaGreatDoor.T9
open Go.RowKit Go.Sort
set_option linter.unusedVariables false

/-- tree.over itself. -/
theorem over_any {σ : Type} {S : σ → World → Prop} {m : Nat → Prop} {st : σ → Nd → Nat → Int → Bool × σ} {f : Nat} {caps : Array Value} (HS : See S m st f caps) (N : Nat) (hm : ∀ k, m k → N ≤ k)
    (G : Int → Ex → Prop) (hG : ∀ d t s, G d t → (st s t.nd t.kids.length d).1 = true → -9223372036854775808 ≤ d + 1 ∧ d + 1 ≤ 9223372036854775807 ∧ ∀ k ∈ t.kids, G (d + 1) k)
    (t : Ex) (v : Value) (s : σ) (w : World) (hG1 : G 1 t) (hin : In (· < N) w v t) (hN : N ≤ w.heap.size) (hS : S s w) :
      Calls Tryz.prog 31 #[v, .func (.func f) #[] caps] w fun e w' => e = .returned (.bool (goE st 1 t s).1) ∧ S (goE st 1 t s).2 w' ∧ Chg m w w' := by
  obtain ⟨nd, ks⟩ := t
  have hin' := hide hin
  obtain ⟨a, len, cap, rfl, _, _, _, _⟩ := hin.un
  have hV := hide (visit_any HS (w.heap.size + 1) (w.heap.size + 2) N hm G hG (.mk nd ks) (exV nd (.slice a len cap)) 1 s)
  have hG1 := hide hG1
  have hN := hide hN
  have hS := hide hS
  have hm := hide hm
  clear hG hin
  have HS := hide HS
  go_enter Tryz.func31, Tryz.ntmps31
  go_wp2_with (first
    | (refine wpList_load_blk rfl 30 _ rfl _ rfl _ (((Blk.new _ _ _).alloc _).alloc _) _ Tryz.underlying30 rfl (exC_info _ _) ?_))
  have hch : Chg m w (((w.alloc (exO nd (.slice a len cap))).alloc (.cells #[.func (.func f) #[] caps] 69)).alloc (.cells #[.func (.func 55) #[] #[.pointer (some ⟨w.heap.size + 1, 0, none⟩), .pointer (some ⟨w.heap.size + 1 + 1, 0, none⟩)]] 69)) := (((Chg.refl m w).alloc _).alloc _).alloc _
  have hlt := HS.out.lt _ _ hS.out
  refine (hV.out _ hG1.out (hin'.out.low (hch.below hN.out hm.out)) (Nat.le_trans hN.out hch.size) (HS.out.same _ _ _ hS.out (fun k hk hl => ?_)) ⟨?_, ?_, fun e => ?_, fun e => ?_⟩).mono ?_
  · rw [Below.heap_alloc _ _ k (by simp; omega), Below.heap_alloc _ _ k (by simp; omega), Below.heap_alloc _ _ k hl]
  · have := (Blk.new (w.alloc (exO nd (.slice a len cap))) #[.func (.func f) #[] caps] 69).alloc (.cells #[.func (.func 55) #[] #[.pointer (some ⟨w.heap.size + 1, 0, none⟩), .pointer (some ⟨w.heap.size + 1 + 1, 0, none⟩)]] 69)
    simpa using this
  · have := Blk.new ((w.alloc (exO nd (.slice a len cap))).alloc (.cells #[.func (.func f) #[] caps] 69)) #[.func (.func 55) #[] #[.pointer (some ⟨w.heap.size + 1, 0, none⟩), .pointer (some ⟨w.heap.size + 1 + 1, 0, none⟩)]] 69
    simpa using this
  · have := hlt _ e; omega
  · have := hlt _ e; omega
  rintro e w1 ⟨rfl, hS1, hc1⟩
  have hc1 := hide (hch.trans hc1)
  have hS1 := hide hS1
  go_wp2_with fail
  go_ret
  exact ⟨rfl, hS1.out, hc1.out⟩
end Go.Proofs.YtdlomdbmmhjppaaGreatDoor.T9
namespace Go.Proofs.YtdlomdbmmhjppaaGreatDoor.T9
open Go.RowKit Go.Sort
set_option linter.unusedVariables false

abbrev S3 := Int × Int × Int
/-- One node is counted. -/
def cnt (s : S3) (nd : Nd) (len : Nat) (d : Int) : Bool × S3 :=
  let n := wrap64 (s.1 + 1)
  let e := max s.2.1 d
  let b := if nd.kind = 2 then wrap64 (s.2.2 + nd.text.size) else s.2.2
  (decide (n ≤ 512) && decide (e ≤ 64) && decide (b ≤ 16384), (n, e, b))
/-- Where the three lie. -/
structure Cn (Bn Bd Bb : Nat) (s : S3) (w : World) : Prop where
  n : Blk w Bn #[.int .i64 s.1] 3
  d : Blk w Bd #[.int .i64 s.2.1] 3
  b : Blk w Bb #[.int .i64 s.2.2] 3
def Is3 (Bn Bd Bb k : Nat) : Prop := k = Bn ∨ k = Bd ∨ k = Bb
theorem Cn.same {Bn Bd Bb : Nat} {s : S3} {w w' : World} (h : Cn Bn Bd Bb s w) (e : ∀ k, Is3 Bn Bd Bb k → k < w.heap.size → w'.heap[k]? = w.heap[k]?) : Cn Bn Bd Bb s w' :=
  ⟨(e _ (.inl rfl) h.n.lt).trans h.n, (e _ (.inr (.inl rfl)) h.d.lt).trans h.d, (e _ (.inr (.inr rfl)) h.b.lt).trans h.b⟩
theorem Cn.lt {Bn Bd Bb : Nat} {s : S3} {w : World} (h : Cn Bn Bd Bb s w) : ∀ k, Is3 Bn Bd Bb k → k < w.heap.size := by
  rintro k (rfl | rfl | rfl)
  exact h.n.lt
  exact h.d.lt
  exact h.b.lt
theorem blk_other {w : World} {B g j : Nat} {vs : Array Value} {t : TypeId} {u : Value} (h : Blk w B vs t) (hne : B ≠ g) : Blk (w.setCell ⟨g, j, none⟩ u) B vs t := (Below.heap_setCell _ _ _ B hne).trans h
theorem Cn.setn {Bn Bd Bb : Nat} {s : S3} {w : World} (h : Cn Bn Bd Bb s w) (h1 : Bn ≠ Bd) (h2 : Bn ≠ Bb) (x : Int) : Cn Bn Bd Bb (x, s.2) (w.setCell ⟨Bn, 0, none⟩ (.int .i64 x)) := ⟨h.n.set 0 _, blk_other h.d (Ne.symm h1), blk_other h.b (Ne.symm h2)⟩
theorem Cn.setd {Bn Bd Bb : Nat} {s : S3} {w : World} (h : Cn Bn Bd Bb s w) (h1 : Bn ≠ Bd) (h2 : Bd ≠ Bb) (x : Int) : Cn Bn Bd Bb (s.1, x, s.2.2) (w.setCell ⟨Bd, 0, none⟩ (.int .i64 x)) := ⟨blk_other h.n h1, h.d.set 0 _, blk_other h.b (Ne.symm h2)⟩
theorem Cn.setb {Bn Bd Bb : Nat} {s : S3} {w : World} (h : Cn Bn Bd Bb s w) (h1 : Bn ≠ Bb) (h2 : Bd ≠ Bb) (x : Int) : Cn Bn Bd Bb (s.1, s.2.1, x) (w.setCell ⟨Bb, 0, none⟩ (.int .i64 x)) := ⟨blk_other h.n h1, blk_other h.d h2, h.b.set 0 _⟩
set_option maxHeartbeats 1000000 in
set_option maxRecDepth 100000 in
theorem count_any (Bn Bd Bb : Nat) (h1 : Bn ≠ Bd) (h2 : Bn ≠ Bb) (h3 : Bd ≠ Bb) (s : S3) (nd : Nd) (a : Option Addr) (len cap : Nat) (d : Int) (w : World) (hC : Cn Bn Bd Bb s w) :
    Calls Tryz.prog 81 #[exV nd (.slice a len cap), .int .i64 d, .pointer (some ⟨Bn, 0, none⟩), .pointer (some ⟨Bd, 0, none⟩), .pointer (some ⟨Bb, 0, none⟩)] w fun e w' =>
      e = .returned (.bool (cnt s nd len d).1) ∧ Cn Bn Bd Bb (cnt s nd len d).2 w' ∧ Chg (Is3 Bn Bd Bb) w w' := by
  obtain ⟨n, e, b⟩ := s
  have A := at14 nd (.slice a len cap)
  have hC0 := hC
  have c0 := A.c0
  have c3 := A.c3
  have hm := ite_max e d
  have cn := hC.n.one
  have cd := hC.d.one
  have cb := hC.b.one
  have fn := hC.n.fr 0
  have fd := hC.d.fr 0
  have fb := hC.b.fr 0
  have l1 := hC.n.lt
  have l2 := hC.d.lt
  have l3 := hC.b.lt
  have h1' := Ne.symm h1
  have h2' := Ne.symm h2
  have h3' := Ne.symm h3
  have HC := hide hC
  clear A hC hC0
  have hch := hide ((Chg.refl (Is3 Bn Bd Bb) w).alloc (exO nd (.slice a len cap)))
  by_cases hk : nd.kind = 2
  · have fin : Cn Bn Bd Bb (cnt (n, e, b) nd len d).2 ((((w.setCell ⟨Bn, 0, none⟩ (.int .i64 (wrap64 (n + 1)))).setCell ⟨Bd, 0, none⟩ (.int .i64 (max e d))).setCell ⟨Bb, 0, none⟩ (.int .i64 (wrap64 (b + nd.text.size)))).alloc (exO nd (.slice a len cap))) ∧ Chg (Is3 Bn Bd Bb) w ((((w.setCell ⟨Bn, 0, none⟩ (.int .i64 (wrap64 (n + 1)))).setCell ⟨Bd, 0, none⟩ (.int .i64 (max e d))).setCell ⟨Bb, 0, none⟩ (.int .i64 (wrap64 (b + nd.text.size)))).alloc (exO nd (.slice a len cap))) := by
      refine ⟨?_, ((((Chg.refl _ w).set Bn 0 _ (.inl rfl)).set Bd 0 _ (.inr (.inl rfl))).set Bb 0 _ (.inr (.inr rfl))).alloc _⟩
      have := (((HC.out.setn h1 h2 (wrap64 (n + 1))).setd h1 h3 (max e d)).setb h2 h3 (wrap64 (b + nd.text.size)))
      simp only [cnt, hk, if_true]
      exact this.same (fun k hk hlt => Below.heap_alloc _ _ k hlt)
    have fin := hide fin
    have hkb : (nd.kind == 2) = true := by simp [hk]
    have hcnt : (cnt (n, e, b) nd len d).1 = (decide (wrap64 (n + 1) ≤ 512) && decide (max e d ≤ 64) && decide (wrap64 (b + nd.text.size) ≤ 16384)) := by simp only [cnt, hk, if_true]
    have hcnt := hide hcnt
    go_enter Tryz.func81, Tryz.ntmps81
    go_wp2_with fail
    all_goals go_ret
    all_goals refine ⟨ret_bool ?_, fin.out⟩
    all_goals try rw [hcnt.out]
    all_goals simp [*]
    all_goals (intros; omega)
  · have fin : Cn Bn Bd Bb (cnt (n, e, b) nd len d).2 (((w.setCell ⟨Bn, 0, none⟩ (.int .i64 (wrap64 (n + 1)))).setCell ⟨Bd, 0, none⟩ (.int .i64 (max e d))).alloc (exO nd (.slice a len cap))) ∧ Chg (Is3 Bn Bd Bb) w (((w.setCell ⟨Bn, 0, none⟩ (.int .i64 (wrap64 (n + 1)))).setCell ⟨Bd, 0, none⟩ (.int .i64 (max e d))).alloc (exO nd (.slice a len cap))) := by
      refine ⟨?_, (((Chg.refl _ w).set Bn 0 _ (.inl rfl)).set Bd 0 _ (.inr (.inl rfl))).alloc _⟩
      have := ((HC.out.setn h1 h2 (wrap64 (n + 1))).setd h1 h3 (max e d))
      simp only [cnt, hk, if_false]
      exact this.same (fun k hk hlt => Below.heap_alloc _ _ k hlt)
    have fin := hide fin
    have hkb : (nd.kind == 2) = false := by simp [hk]
    have hcnt : (cnt (n, e, b) nd len d).1 = (decide (wrap64 (n + 1) ≤ 512) && decide (max e d ≤ 64) && decide (b ≤ 16384)) := by simp only [cnt, hk, if_false]
    have hcnt := hide hcnt
    go_enter Tryz.func81, Tryz.ntmps81
    go_wp2_with fail
    all_goals go_ret
    all_goals refine ⟨ret_bool ?_, fin.out⟩
    all_goals try rw [hcnt.out]
    all_goals simp [*]
    all_goals (intros; omega)
theorem cnt_see (Bn Bd Bb : Nat) (h1 : Bn ≠ Bd) (h2 : Bn ≠ Bb) (h3 : Bd ≠ Bb) : See (Cn Bn Bd Bb) (Is3 Bn Bd Bb) cnt 81 #[.pointer (some ⟨Bn, 0, none⟩), .pointer (some ⟨Bd, 0, none⟩), .pointer (some ⟨Bb, 0, none⟩)] where
  call s nd a len cap d w h := count_any Bn Bd Bb h1 h2 h3 s nd a len cap d w h
  ent := enters Tryz.func81 (by kernel_rfl) (by kernel_rfl)
  lt s w h := h.lt
  same s w w' h e := h.same e
end Go.Proofs.YtdlomdbmmhjppaaGreatDoor.T9
namespace Go.Proofs.YtdlomdbmmhjppaaGreatDoor.T9
open Go.RowKit Go.Sort
set_option linter.unusedVariables false

mutual
def nodesE : Ex → Nat | .mk _ ks => 1 + nodesL ks
def nodesL : List Ex → Nat | [] => 0 | k :: r => nodesE k + nodesL r
end
mutual
def depthE : Ex → Nat | .mk _ ks => 1 + depthL ks
def depthL : List Ex → Nat | [] => 0 | k :: r => max (depthE k) (depthL r)
end
mutual
def bytesE : Ex → Nat | .mk nd ks => (if nd.kind = 2 then nd.text.size else 0) + bytesL ks
def bytesL : List Ex → Nat | [] => 0 | k :: r => bytesE k + bytesL r
end
mutual
/-- No text is longer than any may be. -/
def TxE : Ex → Prop | .mk nd ks => nd.text.size ≤ 4611686018427387904 ∧ TxL ks
def TxL : List Ex → Prop | [] => True | k :: r => TxE k ∧ TxL r
end
theorem TxL_of : ∀ {ks : List Ex}, (∀ k ∈ ks, TxE k) → TxL ks
  | [], _ => by unfold TxL; trivial
  | k :: r, h => by unfold TxL; exact ⟨h k (List.mem_cons_self ..), TxL_of fun x hx => h x (List.mem_cons_of_mem _ hx)⟩
theorem TxL.get : ∀ {ks : List Ex}, TxL ks → ∀ k ∈ ks, TxE k
  | [], _, k, hk => by cases hk
  | k :: r, h, x, hx => by
    unfold TxL at h
    rcases List.mem_cons.1 hx with rfl | hx
    · exact h.1
    · exact h.2.get x hx
theorem In.kid {m : Nat → Prop} {w : World} {v : Value} {nd : Nd} {ks : List Ex} (h : In m w v (.mk nd ks)) : ∀ k ∈ ks, ∃ v', In m w v' k := by
  intro k hk
  obtain ⟨i, hi, rfl⟩ := List.getElem_of_mem hk
  obtain ⟨a, len, cap, _, hl, _, _, h⟩ := h.un
  rcases h.out with h | ⟨b, o, _, _, hkid⟩
  · have := hl.out; omega
  · obtain ⟨cs, h1, _⟩ := hkid.get i hi
    exact ⟨_, h1⟩
theorem In.tx {m : Nat → Prop} {w : World} : ∀ (t : Ex) {v : Value}, In m w v t → TxE t := by
  refine Ex.ind fun nd ks ih => ?_
  intro v h
  unfold TxE
  refine ⟨?_, TxL_of fun k hk => ?_⟩
  · obtain ⟨a, len, cap, _, _, _, ht, _⟩ := h.un
    exact ht.out
  · obtain ⟨v', h'⟩ := h.kid k hk
    exact ih k hk h'
/-- Within the bounds. -/
abbrev Fit (n e b : Int) : Prop := n ≤ 512 ∧ e ≤ 64 ∧ b ≤ 16384
theorem cnt_fit (n e b : Int) (nd : Nd) (len : Nat) (d : Int) (hn : 0 ≤ n) (hn' : n ≤ 512) (hb : 0 ≤ b) (hb' : b ≤ 16384) (ht : nd.text.size ≤ 4611686018427387904) :
    cnt (n, e, b) nd len d = (decide (Fit (n + 1) (max e d) (b + (if nd.kind = 2 then nd.text.size else 0 : Nat))), (n + 1, max e d, b + (if nd.kind = 2 then nd.text.size else 0 : Nat))) := by
  have w1 : wrap64 (n + 1) = n + 1 := IntWalk.wrap64_in _ ⟨by omega, by omega⟩
  have w2 : wrap64 (b + nd.text.size) = b + nd.text.size := IntWalk.wrap64_in _ ⟨by omega, by omega⟩
  unfold cnt
  simp only [w1, w2]
  by_cases hk : nd.kind = 2 <;> simp [hk, Fit, Bool.and_assoc]
mutual
theorem goE_cnt : ∀ (t : Ex) (d n e b : Int), TxE t → 0 ≤ n → n ≤ 512 → 0 ≤ b → b ≤ 16384 → 
    (goE cnt d t (n, e, b)).1 = decide (Fit (n + nodesE t) (max e (d - 1 + depthE t)) (b + bytesE t)) ∧
    (Fit (n + nodesE t) (max e (d - 1 + depthE t)) (b + bytesE t) → (goE cnt d t (n, e, b)).2 = (n + nodesE t, max e (d - 1 + depthE t), b + bytesE t))
  | .mk nd ks, d, n, e, b, ht, hn, hn', hb, hb' => by
    unfold TxE at ht
    have hx := cnt_fit n e b nd ks.length d hn hn' hb hb' ht.1
    rw [goE, hx, nodesE, depthE, bytesE]
    generalize (if nd.kind = 2 then nd.text.size else 0) = T at *
    by_cases hf : Fit (n + 1) (max e d) (b + T)
    · have ih := goL_cnt ks (d + 1) (n + 1) (max e d) (b + T) ht.2 (by omega) hf.1 (by omega) hf.2.2 (by omega) hf.2.1
      simp only [decide_eq_true hf, if_true]
      have e1 : n + 1 + (nodesL ks : Int) = n + ((1 + nodesL ks : Nat) : Int) := by omega
      have e2 : max (max e d) (d + 1 - 1 + (depthL ks : Int)) = max e (d - 1 + ((1 + depthL ks : Nat) : Int)) := by omega
      have e3 : b + (T : Int) + (bytesL ks : Int) = b + ((T + bytesL ks : Nat) : Int) := by omega
      rw [e1, e2, e3] at ih
      exact ih
    · have hf' : ¬ Fit (n + ((1 + nodesL ks : Nat) : Int)) (max e (d - 1 + ((1 + depthL ks : Nat) : Int))) (b + ((T + bytesL ks : Nat) : Int)) := by
        intro h; apply hf; obtain ⟨x, y, z⟩ := h; exact ⟨by omega, by omega, by omega⟩
      simp only [decide_eq_false hf, decide_eq_false hf']
      exact ⟨rfl, fun h => absurd h hf'⟩
theorem goL_cnt : ∀ (ks : List Ex) (d n e b : Int), TxL ks → 0 ≤ n → n ≤ 512 → 0 ≤ b → b ≤ 16384 → d - 1 ≤ e → e ≤ 64 →
    (goL cnt d ks (n, e, b)).1 = decide (Fit (n + nodesL ks) (max e (d - 1 + depthL ks)) (b + bytesL ks)) ∧
    (Fit (n + nodesL ks) (max e (d - 1 + depthL ks)) (b + bytesL ks) → (goL cnt d ks (n, e, b)).2 = (n + nodesL ks, max e (d - 1 + depthL ks), b + bytesL ks))
  | [], d, n, e, b, _, hn, hn', hb, hb', hd, he => by
    rw [goL, nodesL, depthL, bytesL]
    have e2 : max e (d - 1 + ((0 : Nat) : Int)) = e := by omega
    have e1 : n + ((0 : Nat) : Int) = n := by omega
    have e3 : b + ((0 : Nat) : Int) = b := by omega
    rw [e1, e2, e3]
    exact ⟨(decide_eq_true ⟨hn', he, hb'⟩).symm, fun _ => rfl⟩
  | k :: r, d, n, e, b, ht, hn, hn', hb, hb', hd, he => by
    unfold TxL at ht
    obtain ⟨i1, i2⟩ := goE_cnt k d n e b ht.1 hn hn' hb hb'
    rw [goL, nodesL, depthL, bytesL]
    by_cases hf : Fit (n + nodesE k) (max e (d - 1 + depthE k)) (b + bytesE k)
    · have ih := goL_cnt r d (n + nodesE k) (max e (d - 1 + depthE k)) (b + bytesE k) ht.2 (by omega) hf.1 (by omega) hf.2.2 (by omega) hf.2.1
      rw [i1, i2 hf]
      simp only [decide_eq_true hf, if_true]
      have e1 : n + (nodesE k : Int) + (nodesL r : Int) = n + ((nodesE k + nodesL r : Nat) : Int) := by omega
      have e2 : max (max e (d - 1 + (depthE k : Int))) (d - 1 + (depthL r : Int)) = max e (d - 1 + ((max (depthE k) (depthL r) : Nat) : Int)) := by omega
      have e3 : b + (bytesE k : Int) + (bytesL r : Int) = b + ((bytesE k + bytesL r : Nat) : Int) := by omega
      rw [e1, e2, e3] at ih
      exact ih
    · have hf' : ¬ Fit (n + ((nodesE k + nodesL r : Nat) : Int)) (max e (d - 1 + ((max (depthE k) (depthL r) : Nat) : Int))) (b + ((bytesE k + bytesL r : Nat) : Int)) := by
        intro h; apply hf; obtain ⟨x, y, z⟩ := h; exact ⟨by omega, by omega, by omega⟩
      rw [i1]
      simp only [decide_eq_false hf, decide_eq_false hf']
      exact ⟨rfl, fun h => absurd h hf'⟩
end
/-- Is it not too great? -/
def fitB (t : Ex) : Bool := decide (nodesE t ≤ 512 ∧ depthE t ≤ 64 ∧ bytesE t ≤ 16384)
theorem nodes_pos (t : Ex) : 1 ≤ nodesE t := by cases t; rw [nodesE]; omega
theorem depth_pos (t : Ex) : 1 ≤ depthE t := by cases t; rw [depthE]; omega
theorem cnt_yes {t : Ex} (ht : TxE t) (h : fitB t = true) : goE cnt 1 t (0, 0, 0) = (true, ((nodesE t : Int), (depthE t : Int), (bytesE t : Int))) := by
  obtain ⟨h1, h2⟩ := goE_cnt t 1 0 0 0 ht (by omega) (by omega) (by omega) (by omega)
  have hf := of_decide_eq_true h
  have := depth_pos t
  have hf' : Fit (0 + nodesE t) (max 0 (1 - 1 + depthE t)) (0 + bytesE t) := ⟨by omega, by omega, by omega⟩
  have e2 : max (0 : Int) (1 - 1 + (depthE t : Int)) = depthE t := by omega
  rw [decide_eq_true hf'] at h1
  have h2 := h2 hf'
  rw [e2, Int.zero_add, Int.zero_add] at h2
  exact Prod.ext h1 h2
theorem cnt_no {t : Ex} (ht : TxE t) (h : fitB t = false) : (goE cnt 1 t (0, 0, 0)).1 = false := by
  obtain ⟨h1, h2⟩ := goE_cnt t 1 0 0 0 ht (by omega) (by omega) (by omega) (by omega)
  have hf := of_decide_eq_false h
  have := depth_pos t
  rw [h1]
  exact decide_eq_false (fun hh => hf (by obtain ⟨x, y, z⟩ := hh; exact ⟨by omega, by omega, by omega⟩))
/-- What Size answers. -/
def sizeR (t : Ex) : Int × Int × Int := if fitB t then ((nodesE t : Int), (depthE t : Int), (bytesE t : Int)) else (513, 65, 16385)
end Go.Proofs.YtdlomdbmmhjppaaGreatDoor.T9
namespace Go.Proofs.YtdlomdbmmhjppaaGreatDoor.T9
open Go.RowKit Go.Sort
set_option linter.unusedVariables false

/-- A tree in memory that was there. -/
abbrev Tree (w : World) (v : Value) (t : Ex) : Prop := In (· < w.heap.size) w v t
theorem Tree.step {w w' : World} {v : Value} {t : Ex} (h : Tree w v t) (hb : Below w.heap.size w w') : Tree w' v t := h.move (fun k hk => ⟨Nat.lt_of_lt_of_le hk hb.size, hb.block k hk⟩)
theorem Tree.alloc {w : World} {v : Value} {t : Ex} (h : Tree w v t) (o : Obj) : Tree (w.alloc o) v t := h.step ((Below.refl _ _).alloc (Nat.le_refl _) _)
set_option maxHeartbeats 1000000 in
set_option maxRecDepth 100000 in
theorem size_any (t : Ex) (v : Value) (w : World) (hin : Tree w v t) :
    Calls Tryz.prog 54 #[v] w fun e w' => e = .returned (.tuple #[.int .i64 (sizeR t).1, .int .i64 (sizeR t).2.1, .int .i64 (sizeR t).2.2]) ∧ Below w.heap.size w w' := by
  have htx := hide (hin.tx)
  have hin' := hide hin
  obtain ⟨nd, ks⟩ := t
  obtain ⟨a, len, cap, rfl, _, _, _, _⟩ := hin.un
  clear hin
  have HO := hide (over_any (cnt_see (w.heap.size + 1) (w.heap.size + 1 + 1) (w.heap.size + 1 + 1 + 1) (by omega) (by omega) (by omega)) w.heap.size (by rintro k (rfl | rfl | rfl) <;> omega)
    (fun d _ => 1 ≤ d ∧ d ≤ 65) (by
      intro d t s hd h
      have : max s.2.1 d ≤ 64 := by
        unfold cnt at h
        simp only [Bool.and_eq_true, decide_eq_true_eq] at h
        exact h.1.2
      exact ⟨by omega, by omega, fun k _ => ⟨by omega, by omega⟩⟩)
    (.mk nd ks) (exV nd (.slice a len cap)) (0, 0, 0))
  have hld := ((((Blk.new w (exC nd (.slice a len cap)) 30).alloc (.cells #[.int .i64 0] 3)).alloc (.cells #[.int .i64 0] 3)).alloc (.cells #[.int .i64 0] 3))
  have hld := hide hld
  go_enter Tryz.func54, Tryz.ntmps54
  go_wp2_with (first
    | (refine wpList_load_blk rfl 30 _ rfl _ rfl _ hld.out _ Tryz.underlying30 rfl (exC_info _ _) ?_))
  have bel : Below w.heap.size w ((((w.alloc (exO nd (.slice a len cap))).alloc (.cells #[.int .i64 0] 3)).alloc (.cells #[.int .i64 0] 3)).alloc (.cells #[.int .i64 0] 3)) := step (step (step (step (Below.refl _ w) _) _) _) _
  refine (HO.out _ ⟨by omega, by omega⟩ (hin'.out.low bel) bel.size ⟨?_, ?_, ?_⟩).mono ?_
  · have := ((Blk.new (w.alloc (exO nd (.slice a len cap))) #[.int .i64 0] 3).alloc (.cells #[.int .i64 0] 3)).alloc (.cells #[.int .i64 0] 3)
    simpa using this
  · have := (Blk.new ((w.alloc (exO nd (.slice a len cap))).alloc (.cells #[.int .i64 0] 3)) #[.int .i64 0] 3).alloc (.cells #[.int .i64 0] 3)
    simpa using this
  · have := Blk.new (((w.alloc (exO nd (.slice a len cap))).alloc (.cells #[.int .i64 0] 3)).alloc (.cells #[.int .i64 0] 3)) #[.int .i64 0] 3
    simpa using this
  rintro e w1 ⟨rfl, hC, hc1⟩
  have hb1 := hide (bel.trans (hc1.below bel.size (by rintro k (rfl | rfl | rfl) <;> omega)))
  cases hf : fitB (.mk nd ks)
  · have hgo := cnt_no htx.out hf
    rw [hgo]
    obtain ⟨⟨n, e, b⟩, hst⟩ : ∃ s, (goE cnt 1 (.mk nd ks) (0, 0, 0)).2 = s := ⟨_, rfl⟩
    rw [hst] at hC
    have cn := hC.n.one
    have cd := hC.d.one
    have cb := hC.b.one
    have fn := hC.n.fr 0
    have fd := hC.d.fr 0
    have fb := hC.b.fr 0
    have hs : sizeR (.mk nd ks) = (513, 65, 16385) := by unfold sizeR; rw [hf]; rfl
    clear hgo hst hc1 hf HO hld
    go_wp2_with fail
    refine bodyPost_ret (v := .tuple #[.int .i64 513, .int .i64 65, .int .i64 16385]) (by simp [results, Tryz.results54, go_sem, cn, cd, cb]; try rfl) rfl ?_
    rw [hs]
    exact ⟨rfl, ((hb1.out.setCell (p := ⟨w.heap.size + 1, 0, none⟩) (by simp) _).setCell (p := ⟨w.heap.size + 1 + 1, 0, none⟩) (by simp; omega) _).setCell (p := ⟨w.heap.size + 1 + 1 + 1, 0, none⟩) (by simp; omega) _⟩
  · have hgo := cnt_yes htx.out hf
    rw [hgo] at hC ⊢
    have hs : sizeR (.mk nd ks) = ((nodesE (.mk nd ks) : Int), (depthE (.mk nd ks) : Int), (bytesE (.mk nd ks) : Int)) := by unfold sizeR; rw [hf]; rfl
    clear hgo hc1 hf HO hld htx
    generalize (nodesE (.mk nd ks) : Int) = n at *
    generalize (depthE (.mk nd ks) : Int) = e at *
    generalize (bytesE (.mk nd ks) : Int) = b at *
    have cn := hC.n.one
    have cd := hC.d.one
    have cb := hC.b.one
    have fn := hC.n.fr 0
    have fd := hC.d.fr 0
    have fb := hC.b.fr 0
    go_wp2_with fail
    go_region
    all_goals try go_wp2
    refine bodyPost_ret (v := .tuple #[.int .i64 n, .int .i64 e, .int .i64 b]) (by simp [results, Tryz.results54, go_sem, cn, cd, cb]; try rfl) rfl ?_
    rw [hs]
    exact ⟨rfl, (((hb1.out.setCell (p := ⟨w.heap.size + 1, 0, none⟩) (by simp) _).setCell (p := ⟨w.heap.size + 1 + 1, 0, none⟩) (by simp; omega) _).setCell (p := ⟨w.heap.size + 1 + 1 + 1, 0, none⟩) (by simp; omega) _).drew⟩
theorem sizeR_fst (t : Ex) : decide (512 < (sizeR t).1) = !fitB t := by
  cases hf : fitB t
  · have : (sizeR t).1 = 513 := by unfold sizeR; rw [hf]; rfl
    rw [this]; rfl
  · have : (sizeR t).1 = nodesE t := by unfold sizeR; rw [hf]; rfl
    have := of_decide_eq_true hf
    simp; omega
set_option maxHeartbeats 1000000 in
set_option maxRecDepth 100000 in
theorem great_any (t : Ex) (v : Value) (w : World) (hin : Tree w v t) :
    Calls Tryz.prog 30 #[v] w fun e w' => e = .returned (.bool (!fitB t)) ∧ Below w.heap.size w w' := by
  have hin' := hide hin
  obtain ⟨nd, ks⟩ := t
  obtain ⟨a, len, cap, rfl, _, _, _, _⟩ := hin.un
  have hs := sizeR_fst (.mk nd ks)
  have HS := hide (size_any (.mk nd ks) (exV nd (.slice a len cap)) (w.alloc (exO nd (.slice a len cap))) (hin.alloc _))
  obtain ⟨⟨x, y, z⟩, hr⟩ : ∃ r, sizeR (.mk nd ks) = r := ⟨_, rfl⟩
  rw [hr] at hs HS
  have hld := hide (Blk.new w (exC nd (.slice a len cap)) 30)
  clear hin hr
  have hs := hide hs
  go_enter Tryz.func30, Tryz.ntmps30
  go_wp2_with (first
    | (refine wpList_load_blk rfl 30 _ rfl _ rfl _ hld.out _ Tryz.underlying30 rfl (exC_info _ _) ?_)
    | (go_at_call 54; refine HS.out.mono ?_; rintro e w1 ⟨rfl, hb1⟩; have hb1 := hide (next (step (Below.refl _ w) _) hb1)))
  go_ret
  refine ⟨ret_bool ?_, hb1.out⟩
  rw [← hs.out]
end Go.Proofs.YtdlomdbmmhjppaaGreatDoor.T9
