/- Rows of bytes of one's own; appending a byte to one. -/
import Derived.Test.YtcabgnikbgoikaaDoorCu8
import Derived.Lib.AppendStr
namespace Go.Proofs.YtcabgnikbgoikaaDoor
open Go.RowKit Go.Sort
set_option linter.unusedVariables false

theorem info_by8 : (Tryd.prog.info? 5).map (fun i => (i.zero, i.size, i.bytes)) = some (some (.int .u8 0), 1, 1) := by kernel_rfl
/-- Bytes as values. -/
def vs (l : List UInt8) : List Value := l.map fun c => Value.int .u8 (c.toNat : Int)
theorem vs_len (l : List UInt8) : (vs l).length = l.length := by simp [vs]
theorem vs_snoc (l : List UInt8) (c : UInt8) : vs l ++ [.int .u8 (c.toNat : Int)] = vs (l ++ [c]) := by simp [vs]
theorem vs_str (L : List UInt8) (s : ByteArray) : vs L ++ Lib.strCells s = vs (L ++ s.data.toList) := by simp [vs, Lib.strCells]
theorem vs_get (L : List UInt8) (j : Nat) (h : j < L.length) : (vs L)[j]? = some (.int .u8 (L[j].toNat : Int)) := by simp [vs, h]
/-- A row of bytes of one's own: nothing else holds it. -/
def Own (w : World) (B : Nat) (v : Value) (L : List UInt8) : Prop := w.ownsRow B 5 1 v L.length (vs L)
set_option maxRecDepth 100000 in
theorem conv_own8 {w : World} {B n : Nat} {v : Value} {L : List UInt8} (h : w.ownsRow B 5 1 v n (vs L)) : (convert 51 9 v).run Tryd.prog w = .ok (.string ⟨L.toArray⟩) w := by
  obtain ⟨hl, h⟩ := h
  rw [vs_len, Nat.mul_one] at hl
  rcases h with ⟨rfl, rfl⟩ | ⟨g, cap, cur, rfl, _, hg, _, _, _, ht⟩
  · obtain rfl := List.eq_nil_of_length_eq_zero hl
    exact run_convert_bytes_nil w 51 5 Tryd.underlying51 Tryd.underlying5 0 0 9 Tryd.underlying9
  · have hc := run_convert_bytes_arg (P := Tryd.prog) w 51 5 Tryd.underlying51 Tryd.underlying5 g 0 n cap (L.map fun x => (x.toNat : Int)) (by simpa using hl) (fun i hi => by
      have e : cur.toList[i]? = some (.int .u8 ((L.map fun x => (x.toNat : Int)).getD i 0)) := by
        have h1 : (cur.toList.take (n * 1))[i]? = cur.toList[i]? := by rw [List.getElem?_take]; rw [if_pos (by omega)]
        rw [← h1, ht]
        simp [vs, List.getElem?_map, List.getD, List.getElem?_eq_getElem (show i < L.length by omega)]
      unfold World.cell?
      simp [hg]
      simpa using e) 9 Tryd.underlying9
    rw [hc]
    congr 2
    unfold strOfNums
    congr 2
    rw [List.map_map]
    conv => rhs; rw [← List.map_id L]
    apply List.map_congr_left
    intro x _
    simp
theorem Own.conv {w : World} {B : Nat} {v : Value} {L : List UInt8} (h : Own w B v L) : (convert 51 9 v).run Tryd.prog w = .ok (.string ⟨L.toArray⟩) w := conv_own8 h
theorem Own.keep {w w' : World} {B : Nat} {v : Value} {L : List UInt8} (h : Own w B v L) (hb : Below w.heap.size w w') : Own w' B v L :=
  World.ownsRow.kept (row := none) h ⟨hb.os, hb.tape, hb.output, hb.size, fun k hk _ => hb.block k hk⟩ (by cases v.ownBlock <;> simp)
theorem Own.low {w : World} {B B' : Nat} {v : Value} {L : List UInt8} (h : Own w B v L) (hB : B' ≤ B) : Own w B' v L := by
  refine ⟨h.1, ?_⟩
  rcases h.2 with hn | ⟨g, cap, cur, hv, hb, rest⟩
  · exact .inl hn
  · exact .inr ⟨g, cap, cur, hv, Nat.le_trans hB hb, rest⟩
/-- A row that is not empty: its block, its cells. -/
theorem Own.parts {w : World} {B : Nat} {v : Value} {L : List UInt8} (h : Own w B v L) (hl : 1 ≤ L.length) : ∃ g cap cur, v = .slice (some ⟨g, 0, none⟩) L.length cap ∧ B ≤ g ∧ w.heap[g]? = some (.cells cur 5 (0, 0)) ∧ L.length ≤ cap ∧ cap ≤ maxLen ∧ cur.size = cap ∧
    ∀ j (hj : j < L.length), w.cell? ⟨g, j, none⟩ = some (.int .u8 (L[j].toNat : Int)) := by
  have hh := h
  rcases h.2 with ⟨_, hn⟩ | ⟨g, cap, cur, hv, hb, hg, hc, hm, hs, ht⟩
  · omega
  · refine ⟨g, cap, cur, hv, hb, hg, hc, hm, by omega, fun j hj => ?_⟩
    have := World.ownsRow.cells hh (g := g) (by rw [hv]; rfl) j _ (vs_get L j hj)
    rwa [show (⟨g, 0, none⟩ : Addr).add j = ⟨g, j, none⟩ by unfold Addr.add; split <;> simp_all] at this
theorem Own.nil (w : World) (B : Nat) : Own w B (.slice none 0 0) [] := World.ownsRow_nil w B _ _
theorem Own.slice {w : World} {B : Nat} {v : Value} {L : List UInt8} (h : Own w B v L) : ∃ a c, v = .slice a L.length c := row_slice h
section
variable {w : World} {ops : Array Oper} {rest : List Oper} {o : Oper} {a : Act} {Q : Exit → Act → World → Prop} {B X : Nat} {v : Value} {L : List UInt8} {c : UInt8}
theorem wpList_appB (hg : o.guard = none) (s x : Operand) (hop : o.op = Op.call { callee := Callee.builtin Builtin.append, args := #[s, x], argTypes := #[51, 51] })
    (hs : a.eval s = v) (hx : a.eval x = .slice (some ⟨X, 0, none⟩) 1 1) (hown : Own w B v L) (hc : w.cell? ⟨X, 0, none⟩ = some (.int .u8 (c.toNat : Int))) (hl : L.length < 1000000) (hB : B ≤ w.heap.size)
    (hK : ∀ v' w', Own w' B v' (L ++ [c]) → w.grownBy w' v.ownBlock → wpList Tryd.prog ops Q rest (a.put o.dst v') w') : wpList Tryd.prog ops Q (o :: rest) a w := by
  obtain ⟨i0, hi, hz0, hz1, hz2⟩ := info_parts info_by8
  refine wpList_append_own _ hg s x 51 hop B 5 i0 (.int .u8 0) 1 1 Tryd.underlying51 hi hz0 hz1 hz2 rfl (by decide) v _ _ hs hown ⟨X, 0, none⟩ 1 1 [.int .u8 (c.toNat : Int)] hx rfl (fun j u hj => by
    match j, hj with
    | 0, hj => simp at hj; subst hj; rw [show (⟨X, 0, none⟩ : Addr).add 0 = ⟨X, 0, none⟩ by unfold Addr.add; split <;> simp_all]; exact hc) (fun u hu => by simp at hu; subst hu; rfl) (by unfold maxLen; omega) (by omega) hB ?_
  intro v' w' h1 h2 _
  exact hK v' w' (by unfold Own; rw [← vs_snoc, List.length_append]; exact h1) h2
end
end Go.Proofs.YtcabgnikbgoikaaDoor
