/- parse.takes: does a function take so many arguments? parse.operations: the map of operations by their signs, entry by entry; and what is found in it. -/
import Derived.Test.YtdlomdbmmhjppaaGreatDoorLsJ
import Derived.Test.YtdlomdbmmhjppaaGreatDoorDeJ
import Derived.MapKept
namespace Go.Proofs.YtdlomdbmmhjppaaGreatDoor.T9
open Go.RowKit Go.Sort
set_option linter.unusedVariables false

set_option maxHeartbeats 1000000 in
set_option maxRecDepth 100000 in
theorem ptakes_any (k : Nat) (hk : k < 76) (cnt : Int) (w : World) : Calls Tryz.prog 213 #[.int .i64 ((k : Int) + 1), .int .i64 cnt] w fun e w' => e = .returned (.bool (decide ((tab[k]'(by rw [tab_len]; exact hk)).2.1 ≤ cnt ∧ (cnt ≤ (tab[k]'(by rw [tab_len]; exact hk)).2.2 ∨ (tab[k]'(by rw [tab_len]; exact hk)).2.2 < 0)))) ∧ Below w.heap.size w w' := by
  have HI := hide (fun w => info_yes k hk w)
  generalize (tab[k]'(by rw [tab_len]; exact hk)).2.1 = mn at *
  generalize (tab[k]'(by rw [tab_len]; exact hk)).2.2 = mx at *
  generalize (tab[k]'(by rw [tab_len]; exact hk)).1 = nm at *
  generalize clsOf ((k : Int) + 1) = cl at *
  by_cases h1 : mn ≤ cnt
  · by_cases h2 : cnt ≤ mx
    · rw [decide_eq_true (show mn ≤ cnt ∧ (cnt ≤ mx ∨ mx < 0) from ⟨h1, .inl h2⟩)]
      go_enter Tryz.func213, Tryz.ntmps213
      go_wp2_with (first
        | (go_at_call 82; refine (HI.out _).mono ?_; rintro e w1 ⟨rfl, hb⟩; replace hb := hide hb))
      go_ret
      exact ⟨rfl, by have bb := hb.out; have bz := bb.size; go_grown <;> exact bz⟩
    · by_cases h3 : mx < 0
      · rw [decide_eq_true (show mn ≤ cnt ∧ (cnt ≤ mx ∨ mx < 0) from ⟨h1, .inr h3⟩)]
        go_enter Tryz.func213, Tryz.ntmps213
        go_wp2_with (first
          | (go_at_call 82; refine (HI.out _).mono ?_; rintro e w1 ⟨rfl, hb⟩; replace hb := hide hb))
        go_ret
        exact ⟨rfl, by have bb := hb.out; have bz := bb.size; go_grown <;> exact bz⟩
      · rw [decide_eq_false (show ¬ (mn ≤ cnt ∧ (cnt ≤ mx ∨ mx < 0)) from fun h => h.2.elim h2 h3)]
        go_enter Tryz.func213, Tryz.ntmps213
        go_wp2_with (first
          | (go_at_call 82; refine (HI.out _).mono ?_; rintro e w1 ⟨rfl, hb⟩; replace hb := hide hb))
        go_ret
        have e3 : (decide (cnt ≤ mx) || decide (mx < 0)) = false := by rw [Bool.or_eq_false_iff]; exact ⟨decide_eq_false (by omega), decide_eq_false (by omega)⟩
        exact ⟨congrArg (fun b => Ending.returned (.bool b)) e3, by have bb := hb.out; have bz := bb.size; go_grown <;> exact bz⟩
  · rw [decide_eq_false (show ¬ (mn ≤ cnt ∧ (cnt ≤ mx ∨ mx < 0)) from fun h => h1 h.1)]
    go_enter Tryz.func213, Tryz.ntmps213
    go_wp2_with (first
      | (go_at_call 82; refine (HI.out _).mono ?_; rintro e w1 ⟨rfl, hb⟩; replace hb := hide hb))
    go_ret
    exact ⟨rfl, by have bb := hb.out; have bz := bb.size; go_grown <;> exact bz⟩
end Go.Proofs.YtdlomdbmmhjppaaGreatDoor.T9
namespace Go.Proofs.YtdlomdbmmhjppaaGreatDoor.T9
open Go.RowKit Go.Sort
set_option linter.unusedVariables false

def ent (k : List UInt8) (a b : Int) (i : Nat) : MapEntry := { key := .string ⟨k.toArray⟩, val := .agg #[.int .i64 a, .int .i64 b], born := i }
def opsE : List MapEntry := [ent [61] 1 7 0, ent [60, 62] 1 8 1, ent [60] 1 9 2, ent [60, 61] 1 10 3, ent [62] 1 11 4, ent [62, 61] 1 12 5, ent [38] 2 6 6, ent [43] 3 4 7, ent [45] 3 5 8, ent [42] 4 2 9, ent [47] 4 3 10, ent [94] 5 1 11]
theorem und_ops : Tryz.prog.underlying 89 = some (.map 9 130) := by kernel_rfl
set_option maxRecDepth 100000 in
theorem run_upd (es : Array MapEntry) (c r : Nat) (ks : ByteArray) (v : Value) (w : World) (hr : w.heap[r]? = some (.map es c)) (hf : Instr.findNow .string (.string ks) es.toList 0 = some none) :
    (Instr.mapUpdate 89 (.map (some r)) (.string ks) v).run Tryz.prog w = .ok () { w with heap := w.heap.setIfInBounds r (.map (es.push { key := .string ks, val := v, born := c }) (c + 1)) } := by
  have hu := Tryz.underlying9
  have hk : MapKept.IsKey .string (.string ks) := by unfold MapKept.IsKey; trivial
  simp [Instr.mapUpdate, run_underlying und_ops, MapKept.run_getObj_map hr, MapKept.run_checkKey hu hk, MapKept.run_findKey hu hf, MapKept.run_setObj_map _ hr, Result.andThen]
section
variable {w : World} {ops : Array Oper} {rest : List Oper} {o : Oper} {a : Act} {Q : Exit → Act → World → Prop} {r c : Nat} {es : Array MapEntry} {ks : ByteArray} {val : Value}
theorem wpList_ins (hg : o.guard = none) (m x v : Operand) (hop : o.op = Op.insert 89 m x v) (hm : a.eval m = .map (some r)) (hx : a.eval x = .string ks) (hv : a.eval v = val)
    (hr : w.heap[r]? = some (.map es c)) (hf : Instr.findNow .string (.string ks) es.toList 0 = some none)
    (hK : ∀ w', w'.heap[r]? = some (.map (es.push { key := .string ks, val := val, born := c }) (c + 1)) → w.grownBy w' (some r) → wpList Tryz.prog ops Q rest (a.put o.dst undef) w') : wpList Tryz.prog ops Q (o :: rest) a w := by
  refine wpList_plain hg fun K' hK' => ?_
  have hrun := run_upd es c r ks val w hr hf
  have hh := MapKept.heap_set (o' := .map (es.push { key := .string ks, val := val, born := c }) (c + 1)) hr
  unfold Oper.wp
  simp [execOp, hop, hm, hx, hv, hrun, Result.andThen]
  exact hK' _ _ (hK _ hh.1 ⟨rfl, rfl, rfl, by simp, fun k _ hk => hh.2 k (fun e => hk (by rw [e]))⟩)
end
theorem make_ops (w : World) : (Instr.makeMap 89 none).run Tryz.prog w = .ok (.map (some w.heap.size)) (w.alloc (.map #[] 0)) := rfl
/-- The map of operations lies there. -/
def OpsM (w : World) (mB : Nat) : Prop := w.heap[mB]? = some (.map opsE.toArray 12)
theorem grown_in {w w1 w2 : World} {r : Nat} (h : Below w.heap.size w w1) (hg : w1.grownBy w2 (some r)) (hr : w.heap.size ≤ r) : Below w.heap.size w w2 :=
  ⟨hg.os.trans h.os, hg.tape.trans h.tape, hg.output.trans h.output, Nat.le_trans h.size hg.size, fun k hk => (hg.block k (Nat.lt_of_lt_of_le hk h.size) (fun e => by cases e; omega)).trans (h.block k hk)⟩
set_option maxHeartbeats 1000000 in
set_option maxRecDepth 100000 in
theorem operations_any (w : World) : Calls Tryz.prog 52 #[] w fun e w' => e = .returned (.map (some w.heap.size)) ∧ OpsM w' w.heap.size ∧ Below w.heap.size w w' := by
  have hmm := make_ops
  have H : Hid ((w.alloc (.map #[] 0)).heap[w.heap.size]? = some (.map #[] 0)) := hide (MapKept.heap_alloc w _).1
  have B := hide (step (Below.refl w.heap.size w) (.map #[] 0))
  go_enter Tryz.func52, Tryz.ntmps52
  go_wp2_with (refine wpList_ins rfl _ _ _ rfl (r := w.heap.size) rfl rfl rfl (by with_reducible exact H.out) (by kernel_rfl) ?_; intro w' h1 h2; replace H := hide h1; replace B := hide (grown_in B.out h2 (Nat.le_refl _)); clear h1 h2)
  go_ret
  exact ⟨rfl, H.out, B.out⟩
theorem beq_no {s : List UInt8} {k : List UInt8} (h : ¬ s = k) : ((⟨s.toArray⟩ : ByteArray) == (⟨k.toArray⟩ : ByteArray)) = false := by
  show ((s.toArray == k.toArray : Bool)) = false
  rw [beq_eq_false_iff_ne]
  intro e
  exact h (by simpa using congrArg Array.toList e)
theorem beq_yes (k : List UInt8) : ((⟨k.toArray⟩ : ByteArray) == (⟨k.toArray⟩ : ByteArray)) = true := by
  show ((k.toArray == k.toArray : Bool)) = true
  exact beq_self_eq_true _
theorem fn_no {s k : List UInt8} {a b : Int} {i n : Nat} {es : List MapEntry} (h : ¬ s = k) : Instr.findNow .string (.string ⟨s.toArray⟩) (ent k a b i :: es) n = Instr.findNow .string (.string ⟨s.toArray⟩) es (n + 1) := by
  rw [Instr.findNow]
  show (match Instr.sameNow .string (.string ⟨s.toArray⟩) (.string ⟨k.toArray⟩) with | some true => _ | some false => _ | none => _) = _
  rw [Instr.sameNow, beq_no h]
theorem fn_yes (k : List UInt8) {a b : Int} {i n : Nat} {es : List MapEntry} : Instr.findNow .string (.string ⟨k.toArray⟩) (ent k a b i :: es) n = some (some (n, .agg #[.int .i64 a, .int .i64 b])) := by
  rw [Instr.findNow]
  show (match Instr.sameNow .string (.string ⟨k.toArray⟩) (.string ⟨k.toArray⟩) with | some true => _ | some false => _ | none => _) = _
  rw [Instr.sameNow, beq_yes]
  rfl
abbrev opV (s : List UInt8) : Value := .agg #[.int .i64 ((opOf s).1 : Int), .int .i64 (opOf s).2]
theorem fn_ops (s : List UInt8) : (∃ n, Instr.findNow .string (.string ⟨s.toArray⟩) opsE 0 = some (some (n, opV s))) ∨ (Instr.findNow .string (.string ⟨s.toArray⟩) opsE 0 = some none ∧ opOf s = (0, 0)) := by
  unfold opsE opV
  by_cases h1 : s = [61]
  · subst h1; exact .inl ⟨_, fn_yes _⟩
  rw [fn_no h1]
  by_cases h2 : s = [60, 62]
  · subst h2; exact .inl ⟨_, fn_yes _⟩
  rw [fn_no h2]
  by_cases h3 : s = [60]
  · subst h3; exact .inl ⟨_, fn_yes _⟩
  rw [fn_no h3]
  by_cases h4 : s = [60, 61]
  · subst h4; exact .inl ⟨_, fn_yes _⟩
  rw [fn_no h4]
  by_cases h5 : s = [62]
  · subst h5; exact .inl ⟨_, fn_yes _⟩
  rw [fn_no h5]
  by_cases h6 : s = [62, 61]
  · subst h6; exact .inl ⟨_, fn_yes _⟩
  rw [fn_no h6]
  by_cases h7 : s = [38]
  · subst h7; exact .inl ⟨_, fn_yes _⟩
  rw [fn_no h7]
  by_cases h8 : s = [43]
  · subst h8; exact .inl ⟨_, fn_yes _⟩
  rw [fn_no h8]
  by_cases h9 : s = [45]
  · subst h9; exact .inl ⟨_, fn_yes _⟩
  rw [fn_no h9]
  by_cases h10 : s = [42]
  · subst h10; exact .inl ⟨_, fn_yes _⟩
  rw [fn_no h10]
  by_cases h11 : s = [47]
  · subst h11; exact .inl ⟨_, fn_yes _⟩
  rw [fn_no h11]
  by_cases h12 : s = [94]
  · subst h12; exact .inl ⟨_, fn_yes _⟩
  rw [fn_no h12]
  exact .inr ⟨rfl, by unfold opOf; simp [h1, h2, h3, h4, h5, h6, h7, h8, h9, h10, h11, h12]⟩
theorem look_ops (s : List UInt8) (w : World) (mB : Nat) (h : OpsM w mB) : (Instr.lookup 89 (.map (some mB)) (.string ⟨s.toArray⟩) false).run Tryz.prog w = .ok (opV s) w := by
  have hu := Tryz.underlying9
  have hk : MapKept.IsKey .string (.string (⟨s.toArray⟩ : ByteArray)) := by unfold MapKept.IsKey; trivial
  have he : opsE.toArray.isEmpty = false := rfl
  rcases fn_ops s with ⟨n, hf⟩ | ⟨hf, h0⟩
  · simp [Instr.lookup, run_underlying und_ops, MapKept.run_getObj_map h, MapKept.run_checkKey hu hk, MapKept.run_findKey hu hf, Result.andThen]
  · simp [Instr.lookup, run_underlying und_ops, MapKept.run_getObj_map h, MapKept.run_checkKey hu hk, MapKept.run_findKey hu hf, Result.andThen, opV, h0]
end Go.Proofs.YtdlomdbmmhjppaaGreatDoor.T9
