/- Rows of bytes of one's own; appending a byte to one. spelled: a word as it is written, for every word. Proved of the Go text. quadrillelaw10.spelled: a word that is no text as it is written, small letters where they may be. Proved of the Go text. quadrillelaw10.spelled: a text as it is written. Proved of the Go text. quadrillelaw10.spelled of every word that is no text. Proved of the Go text. What the walk of LexBlanks leans on: the last argument's bytes, a place turned in a row of words, texts and bytes appended to a row of bytes. The state of LexBlanks' loop, of lists alone. -/
import Derived.Test.YtdlomdbmmhjppaaGreatDoorCu8
import Derived.Lib.AppendStr
import Derived.Test.YtdlomdbmmhjppaaGreatDoorBlJ
import Derived.Lib.ConvBytes
import Derived.Lib.BufferMore
import Derived.Test.YtdlomdbmmhjppaaGreatDoorCtJ
namespace Go.Proofs.YtdlomdbmmhjppaaGreatDoor
open Go.RowKit Go.Sort
set_option linter.unusedVariables false

theorem info_by8 : (Tryz.prog.info? 5).map (fun i => (i.zero, i.size, i.bytes)) = some (some (.int .u8 0), 1, 1) := by kernel_rfl
/-- Bytes as values. -/
def vs (l : List UInt8) : List Value := l.map fun c => Value.int .u8 (c.toNat : Int)
theorem vs_len (l : List UInt8) : (vs l).length = l.length := by simp [vs]
theorem vs_snoc (l : List UInt8) (c : UInt8) : vs l ++ [.int .u8 (c.toNat : Int)] = vs (l ++ [c]) := by simp [vs]
theorem vs_str (L : List UInt8) (s : ByteArray) : vs L ++ Lib.strCells s = vs (L ++ s.data.toList) := by simp [vs, Lib.strCells]
theorem vs_get (L : List UInt8) (j : Nat) (h : j < L.length) : (vs L)[j]? = some (.int .u8 (L[j].toNat : Int)) := by simp [vs, h]
/-- A row of bytes of one's own: nothing else holds it. -/
def Own (w : World) (B : Nat) (v : Value) (L : List UInt8) : Prop := w.ownsRow B 5 1 v L.length (vs L)
set_option maxRecDepth 100000 in
theorem conv_own8 {w : World} {B n : Nat} {v : Value} {L : List UInt8} (h : w.ownsRow B 5 1 v n (vs L)) : (convert 38 9 v).run Tryz.prog w = .ok (.string ⟨L.toArray⟩) w := by
  obtain ⟨hl, h⟩ := h
  rw [vs_len, Nat.mul_one] at hl
  rcases h with ⟨rfl, rfl⟩ | ⟨g, cap, cur, rfl, _, hg, _, _, _, ht⟩
  · obtain rfl := List.eq_nil_of_length_eq_zero hl
    exact run_convert_bytes_nil w 38 5 Tryz.underlying38 Tryz.underlying5 0 0 9 Tryz.underlying9
  · have hc := run_convert_bytes_arg (P := Tryz.prog) w 38 5 Tryz.underlying38 Tryz.underlying5 g 0 n cap (L.map fun x => (x.toNat : Int)) (by simpa using hl) (fun i hi => by
      have e : cur.toList[i]? = some (.int .u8 ((L.map fun x => (x.toNat : Int)).getD i 0)) := by
        have h1 : (cur.toList.take (n * 1))[i]? = cur.toList[i]? := by rw [List.getElem?_take]; rw [if_pos (by omega)]
        rw [← h1, ht]
        simp [vs, List.getElem?_map, List.getD, List.getElem?_eq_getElem (show i < L.length by omega)]
      unfold World.cell?
      simp [hg]
      simpa using e) 9 Tryz.underlying9
    rw [hc]
    congr 2
    unfold strOfNums
    congr 2
    rw [List.map_map]
    conv => rhs; rw [← List.map_id L]
    apply List.map_congr_left
    intro x _
    simp
theorem Own.conv {w : World} {B : Nat} {v : Value} {L : List UInt8} (h : Own w B v L) : (convert 38 9 v).run Tryz.prog w = .ok (.string ⟨L.toArray⟩) w := conv_own8 h
theorem Own.keep {w w' : World} {B : Nat} {v : Value} {L : List UInt8} (h : Own w B v L) (hb : Below w.heap.size w w') : Own w' B v L :=
  World.ownsRow.kept (row := none) h ⟨hb.os, hb.tape, hb.output, hb.size, fun k hk _ => hb.block k hk⟩ (by cases v.ownBlock <;> simp)
theorem Own.low {w : World} {B B' : Nat} {v : Value} {L : List UInt8} (h : Own w B v L) (hB : B' ≤ B) : Own w B' v L := by
  refine ⟨h.1, ?_⟩
  rcases h.2 with hn | ⟨g, cap, cur, hv, hb, rest⟩
  · exact .inl hn
  · exact .inr ⟨g, cap, cur, hv, Nat.le_trans hB hb, rest⟩
/-- A row that is not empty: its block, its cells. -/
theorem Own.parts {w : World} {B : Nat} {v : Value} {L : List UInt8} (h : Own w B v L) (hl : 1 ≤ L.length) : ∃ g cap cur, v = .slice (some ⟨g, 0, none⟩) L.length cap ∧ B ≤ g ∧ w.heap[g]? = some (.cells cur 5 (0, 0)) ∧ L.length ≤ cap ∧ cap ≤ maxLen ∧ cur.size = cap ∧
    ∀ j (hj : j < L.length), w.cell? ⟨g, j, none⟩ = some (.int .u8 (L[j].toNat : Int)) := by
  have hh := h
  rcases h.2 with ⟨_, hn⟩ | ⟨g, cap, cur, hv, hb, hg, hc, hm, hs, ht⟩
  · omega
  · refine ⟨g, cap, cur, hv, hb, hg, hc, hm, by omega, fun j hj => ?_⟩
    have := World.ownsRow.cells hh (g := g) (by rw [hv]; rfl) j _ (vs_get L j hj)
    rwa [show (⟨g, 0, none⟩ : Addr).add j = ⟨g, j, none⟩ by unfold Addr.add; split <;> simp_all] at this
theorem Own.nil (w : World) (B : Nat) : Own w B (.slice none 0 0) [] := World.ownsRow_nil w B _ _
theorem Own.slice {w : World} {B : Nat} {v : Value} {L : List UInt8} (h : Own w B v L) : ∃ a c, v = .slice a L.length c := row_slice h
section
variable {w : World} {ops : Array Oper} {rest : List Oper} {o : Oper} {a : Act} {Q : Exit → Act → World → Prop} {B X : Nat} {v : Value} {L : List UInt8} {c : UInt8}
theorem wpList_appB (hg : o.guard = none) (s x : Operand) (hop : o.op = Op.call { callee := Callee.builtin Builtin.append, args := #[s, x], argTypes := #[38, 38] })
    (hs : a.eval s = v) (hx : a.eval x = .slice (some ⟨X, 0, none⟩) 1 1) (hown : Own w B v L) (hc : w.cell? ⟨X, 0, none⟩ = some (.int .u8 (c.toNat : Int))) (hl : L.length < 1000000) (hB : B ≤ w.heap.size)
    (hK : ∀ v' w', Own w' B v' (L ++ [c]) → w.grownBy w' v.ownBlock → wpList Tryz.prog ops Q rest (a.put o.dst v') w') : wpList Tryz.prog ops Q (o :: rest) a w := by
  obtain ⟨i0, hi, hz0, hz1, hz2⟩ := info_parts info_by8
  refine wpList_append_own _ hg s x 38 hop B 5 i0 (.int .u8 0) 1 1 Tryz.underlying38 hi hz0 hz1 hz2 rfl (by decide) v _ _ hs hown ⟨X, 0, none⟩ 1 1 [.int .u8 (c.toNat : Int)] hx rfl (fun j u hj => by
    match j, hj with
    | 0, hj => simp at hj; subst hj; rw [show (⟨X, 0, none⟩ : Addr).add 0 = ⟨X, 0, none⟩ by unfold Addr.add; split <;> simp_all]; exact hc) (fun u hu => by simp at hu; subst hu; rfl) (by unfold maxLen; omega) (by omega) hB ?_
  intro v' w' h1 h2 _
  exact hK v' w' (by unfold Own; rw [← vs_snoc, List.length_append]; exact h1) h2
end
end Go.Proofs.YtdlomdbmmhjppaaGreatDoor
namespace Go.Proofs.YtdlomdbmmhjppaaGreatDoor
open Go.RowKit Go.Sort
set_option linter.unusedVariables false

/-- What spelled answers: bytes in new memory. -/
def SplP (w w' : World) (t : List UInt8) (e : Ending) : Prop := Below w.heap.size w w' ∧ ∃ g c, e = .returned (.slice (some ⟨g, 0, none⟩) t.length c) ∧ w.heap.size ≤ g ∧ ∀ j (h : j < t.length), w'.cell? ⟨g, j, none⟩ = some (.int .u8 (t[j].toNat : Int))
theorem bytes_below8 (w : World) (s : ByteArray) : Below w.heap.size w (Lib.bytesWorld w 5 s) :=
  ⟨rfl, rfl, rfl, by rw [Lib.bytesWorld_size]; omega, fun k hk => Lib.bytesWorld_at_old w _ s k hk⟩
theorem dbl_snoc (t : List UInt8) (c : UInt8) : dbl (t ++ [c]) = dbl t ++ (if c = 34 then [34, 34] else [c]) := by simp [dbl]
theorem dbl_le (t : List UInt8) : (dbl t).length ≤ 2 * t.length := by
  induction t with
  | nil => simp [dbl]
  | cons c t ih =>
    have : dbl (c :: t) = (if c = 34 then [34, 34] else [c]) ++ dbl t := by simp [dbl]
    rw [this, List.length_append, List.length_cons]
    split <;> simp <;> omega
end Go.Proofs.YtdlomdbmmhjppaaGreatDoor
namespace Go.Proofs.YtdlomdbmmhjppaaGreatDoor
open Go.RowKit Go.Sort
set_option linter.unusedVariables false

/-- A letter made small, where it may be. -/
def lowF (k : Nat) (sm : Bool) (c : UInt8) : UInt8 := if sm = true ∧ (k = 3 ∨ k = 4 ∨ k = 5) ∧ 65 ≤ c.toNat ∧ c.toNat ≤ 90 then UInt8.ofNat (c.toNat - 65 + 97) else c
theorem lowF_yes {k : Nat} {c : UInt8} (hk : k = 3 ∨ k = 4 ∨ k = 5) (h0 : 65 ≤ c.toNat) (h1 : c.toNat ≤ 90) : ((lowF k true c).toNat : Int) = (c.toNat : Int) - 65 + 97 := by
  unfold lowF
  rw [if_pos ⟨rfl, hk, h0, h1⟩, UInt8.toNat_ofNat']
  omega
theorem row_cellZ {w : World} {g n j : Nat} {cur : Array Value} {T : TypeId} {v : Value} (h : w.heap[g]? = some (.cells cur T (n, n + 1))) (hv : cur[j]? = some v) : w.cell? ⟨g, j, none⟩ = some v := by
  unfold World.cell?
  simp [h]
  exact hv
theorem row_frZ {w : World} {g n j : Nat} {cur : Array Value} {T : TypeId} (h : w.heap[g]? = some (.cells cur T (n, n + 1))) (hj : j < n) : w.frozen? ⟨g, j, none⟩ = false := by
  unfold World.frozen?
  simp [h]
  omega
/-- How far the bytes are written. -/
structure LowR (w wr : World) (g n k : Nat) (F : UInt8 → UInt8) (s : ByteArray) : Prop where
  row : ∃ cur, wr.heap[g]? = some (.cells cur 5 (n, n + 1)) ∧ cur.size = n ∧ ∀ j (hj : j < s.size), cur[j]? = some (.int .u8 (if j < k then ((F s[j]).toNat : Int) else (s[j].toNat : Int)))
theorem LowR.cell {w wr : World} {g n k : Nat} {F : UInt8 → UInt8} {s : ByteArray} (h : LowR w wr g n k F s) (hn : s.size ≤ n) (hk : k < s.size) : wr.cell? ⟨g, k, none⟩ = some (.int .u8 (s[k].toNat : Int)) ∧ wr.frozen? ⟨g, k, none⟩ = false := by
  obtain ⟨cur, h1, h2, h3⟩ := h.row
  have := h3 k hk
  rw [if_neg (Nat.lt_irrefl k)] at this
  exact ⟨row_cellZ h1 this, row_frZ h1 (by omega)⟩
theorem LowR.stay {w wr : World} {g n k : Nat} {F : UInt8 → UInt8} {s : ByteArray} (h : LowR w wr g n k F s) (hk : k < s.size) (e : F s[k] = s[k]) : LowR w wr g n (k + 1) F s := by
  obtain ⟨cur, h1, h2, h3⟩ := h.row
  refine ⟨cur, h1, h2, fun j hj => ?_⟩
  rw [h3 j hj]
  by_cases hjk : j = k
  · subst hjk
    rw [if_neg (Nat.lt_irrefl j), if_pos (Nat.lt_succ_self j), e]
  · by_cases hl : j < k
    · rw [if_pos hl, if_pos (by omega)]
    · rw [if_neg hl, if_neg (by omega)]
theorem LowR.put {w wr : World} {g n k : Nat} {F : UInt8 → UInt8} {s : ByteArray} (h : LowR w wr g n k F s) (hn : s.size ≤ n) (hk : k < s.size) (x : Int) (e : ((F s[k]).toNat : Int) = x) : LowR w (wr.setCell ⟨g, k, none⟩ (.int .u8 x)) g n (k + 1) F s := by
  obtain ⟨cur, h1, h2, h3⟩ := h.row
  refine ⟨cur.setIfInBounds k (.int .u8 x), Lib.heap_setCell_same h1 _, by rw [Array.size_setIfInBounds]; exact h2, fun j hj => ?_⟩
  rw [Array.getElem?_setIfInBounds]
  by_cases hjk : k = j
  · subst hjk
    rw [if_pos rfl, if_pos (by omega), if_pos (Nat.lt_succ_self k), e]
  · rw [if_neg hjk, h3 j hj]
    by_cases hl : j < k
    · rw [if_pos hl, if_pos (by omega)]
    · rw [if_neg hl, if_neg (by omega)]
end Go.Proofs.YtdlomdbmmhjppaaGreatDoor
namespace Go.Proofs.YtdlomdbmmhjppaaGreatDoor
open Go.RowKit Go.Sort
set_option linter.unusedVariables false

set_option maxRecDepth 100000 in
set_option maxHeartbeats 4000000 in
theorem spl10_text (s : ByteArray) (i : Int) (sm : Bool) (w : World) (hs : s.size ≤ 65535) : Calls Tryz.prog 16 #[wdV 2 s i, .bool sm] w fun e w' => SplP w w' ([34] ++ dbl s.data.toList ++ [34]) e := by
  have hs' : s.size ≤ 9223372036854775807 := by omega
  have hL := hide (Lib.size_eq s)
  have B1 := hide (step (step (Below.refl w.heap.size w) (wdO 2 s i)) (.cells #[.int .u8 34] 5))
  have bk1 := hide ((Blk.new w #[.int .i64 2, .string s, .int .i64 i] 44).alloc (.cells #[.int .u8 34] 5))
  have O1 : Hid (Own ((w.alloc (wdO 2 s i)).alloc (.cells #[.int .u8 34] 5)) w.heap.size (.slice (some ⟨w.heap.size + 1, 0, none⟩) 1 1) [34]) := hide (by
    have := World.ownsRow_lit (base := w.heap.size) (e := 5) (size := 1) (w.alloc (wdO 2 s i)) #[.int .u8 34] 1 (by rw [World.size_alloc]; omega) (by decide) rfl
    rw [World.size_alloc] at this
    exact this)
  obtain ⟨w1, hw1⟩ : ∃ w1, (w.alloc (wdO 2 s i)).alloc (.cells #[.int .u8 34] 5) = w1 := ⟨_, rfl⟩
  rw [hw1] at B1 bk1 O1
  go_enter Tryz.func16, Tryz.ntmps16
  go_wp2_with fail
  go_loopw [5, 6] (fun v a wr => ∃ (k : Nat) (M : List UInt8), k ≤ s.size ∧ a = .int .i64 k ∧ Hid (M = [34] ++ dbl (s.data.toList.take k)) ∧ Hid (Own wr w.heap.size v M) ∧ Hid (Blk wr w.heap.size #[.int .i64 2, .string s, .int .i64 i] 44) ∧ Hid (Below w.heap.size w wr)) (fun _ a _ => s.size - (intOf a).toNat)
  case atStart => exact ⟨0, _, Nat.zero_le _, rfl, hide rfl, O1, bk1, B1⟩
  case round =>
    obtain ⟨k, M, hk, rfl, hM, hO, hbk, hB⟩ := hrel
    obtain ⟨av, cv, rfl⟩ := hO.out.slice
    obtain ⟨c0, c1, c2⟩ := hbk.out.cells3
    have hk1 : (k : Int) + 1 ≤ 9223372036854775807 := by omega
    have hBs := hide hB.out.size
    have hlen : Hid (M.length ≤ 200000) := hide (by
      rw [hM.out]
      have := dbl_le (s.data.toList.take k)
      rw [List.length_take] at this
      rw [List.length_append, List.length_singleton]; omega)
    by_cases hlt : k < s.size
    · have hki : (k : Int) < s.size := by omega
      have hst : Hid ([34] ++ dbl (s.data.toList.take (k + 1)) = M ++ (if s[k] = 34 then [34, 34] else [s[k]])) := hide (by
        have hl : k < s.data.toList.length := by rw [← Lib.size_eq]; exact hlt
        rw [hM.out, List.take_succ_eq_append_getElem hl, dbl_snoc, List.append_assoc]
        rfl)
      have e34 : ((s[k].toNat : Int) == 34) = (s[k] == 34) := eq_c8 s[k] 34 (by decide)
      cases h34 : (s[k] == 34)
      · rw [h34] at e34
        have hst2 : Hid ([34] ++ dbl (s.data.toList.take (k + 1)) = M ++ [s[k]]) := hide (by rw [hst.out, if_neg (by simpa using h34)])
        clear h34 hst
        have q1 := hide (hO.out.keep (step (Below.refl _ _) (.cells #[.int .u8 (s[k].toNat : Int)] 5)))
        have q2 := hide (hbk.out.keep (step (Below.refl _ _) (.cells #[.int .u8 (s[k].toNat : Int)] 5)))
        have q3 := hide (step hB.out (.cells #[.int .u8 (s[k].toNat : Int)] 5))
        have q4 : (wr.alloc (.cells #[.int .u8 (s[k].toNat : Int)] 5)).cell? ⟨wr.heap.size, 0, none⟩ = some (.int .u8 ((s[k] : UInt8).toNat : Int)) := (Blk.new wr _ _).at' 0
        have q5 := hide hB.out.size
        go_wp2_with (at_builtin; refine wpList_appB rfl _ _ rfl rfl rfl q1.out q4 (by have := hlen.out; omega) (by have := q5.out; simp; omega) ?_)
        intro v3 w3 hO3 hg3
        have hbk3 := hide (q2.out.kept hg3 (fun e => row_ne q1.out q2.out (by decide) e.symm))
        have hB3 := hide (q3.out.grown hg3 q3.out.size (fun j e => (q1.out.lt j e).1))
        replace hO3 := hide hO3
        clear q1 q2 q3 q4 q5 hg3
        go_wp2_with fail
        go_roundw
        case rel => exact ⟨k + 1, M ++ [s[k]], by omega, by go_num, hide hst2.out.symm, hO3, hbk3, hB3⟩
        case measure => simp [intOf]; omega
      · rw [h34] at e34
        have hst2 : Hid ([34] ++ dbl (s.data.toList.take (k + 1)) = M ++ [34] ++ [s[k]]) := hide (by
          have h : s[k] = 34 := by simpa using h34
          rw [hst.out, if_pos h, h, List.append_assoc]; rfl)
        clear h34 hst
        have q1 := hide (hO.out.keep (step (Below.refl _ _) (.cells #[.int .u8 34] 5)))
        have q2 := hide (hbk.out.keep (step (Below.refl _ _) (.cells #[.int .u8 34] 5)))
        have q3 := hide (step hB.out (.cells #[.int .u8 34] 5))
        have q4 : (wr.alloc (.cells #[.int .u8 34] 5)).cell? ⟨wr.heap.size, 0, none⟩ = some (.int .u8 ((34 : UInt8).toNat : Int)) := (Blk.new wr _ _).at' 0
        have q5 := hide hB.out.size
        go_wp2_with (at_builtin; refine wpList_appB rfl _ _ rfl rfl rfl q1.out q4 (by have := hlen.out; omega) (by have := q5.out; simp; omega) ?_)
        intro v3 w3 hO3 hg3
        have hbk3 := hide (q2.out.kept hg3 (fun e => row_ne q1.out q2.out (by decide) e.symm))
        have hB3 := hide (q3.out.grown hg3 q3.out.size (fun j e => (q1.out.lt j e).1))
        replace hO3 := hide hO3
        clear q1 q2 q3 q4 q5 hg3
        obtain ⟨M2, hM2⟩ : ∃ M2, M ++ [34] = M2 := ⟨_, rfl⟩
        have hlen2 : Hid (M2.length ≤ 200001) := hide (by rw [← hM2, List.length_append, List.length_singleton]; have := hlen.out; omega)
        rw [hM2] at hO3 hst2
        clear hM2
        obtain ⟨d0, d1, d2⟩ := hbk3.out.cells3
        obtain ⟨av3, cv3, rfl⟩ := hO3.out.slice
        have q1 := hide (hO3.out.keep (step (Below.refl _ _) (.cells #[.int .u8 (s[k].toNat : Int)] 5)))
        have q2 := hide (hbk3.out.keep (step (Below.refl _ _) (.cells #[.int .u8 (s[k].toNat : Int)] 5)))
        have q3 := hide (step hB3.out (.cells #[.int .u8 (s[k].toNat : Int)] 5))
        have q4 : (w3.alloc (.cells #[.int .u8 (s[k].toNat : Int)] 5)).cell? ⟨w3.heap.size, 0, none⟩ = some (.int .u8 ((s[k] : UInt8).toNat : Int)) := (Blk.new w3 _ _).at' 0
        have q5 := hide hB3.out.size
        go_wp2_with (at_builtin; refine wpList_appB rfl _ _ rfl rfl rfl q1.out q4 (by have := hlen2.out; omega) (by have := q5.out; simp; omega) ?_)
        intro v4 w4 hO4 hg4
        have hbk4 := hide (q2.out.kept hg4 (fun e => row_ne q1.out q2.out (by decide) e.symm))
        have hB4 := hide (q3.out.grown hg4 q3.out.size (fun j e => (q1.out.lt j e).1))
        replace hO4 := hide hO4
        clear q1 q2 q3 q4 q5 hg4
        go_wp2_with fail
        go_roundw
        case rel => exact ⟨k + 1, M2 ++ [s[k]], by omega, by go_num, hide hst2.out.symm, hO4, hbk4, hB4⟩
        case measure => simp [intOf]; omega
    · have hki : ¬ (k : Int) < s.size := by omega
      have hfin : Hid ([34] ++ dbl s.data.toList = M) := hide (by rw [hM.out, List.take_of_length_le (by rw [← Lib.size_eq]; omega)])
      have q1 := hide (hO.out.keep (step (Below.refl _ _) (.cells #[.int .u8 34] 5)))
      have q2 := hide (hbk.out.keep (step (Below.refl _ _) (.cells #[.int .u8 34] 5)))
      have q3 := hide (step hB.out (.cells #[.int .u8 34] 5))
      have q4 : (wr.alloc (.cells #[.int .u8 34] 5)).cell? ⟨wr.heap.size, 0, none⟩ = some (.int .u8 ((34 : UInt8).toNat : Int)) := (Blk.new wr _ _).at' 0
      have q5 := hide hB.out.size
      go_wp2_with (at_builtin; refine wpList_appB rfl _ _ rfl rfl rfl q1.out q4 (by have := hlen.out; omega) (by have := q5.out; simp; omega) ?_)
      intro v3 w3 hO3 hg3
      have hbk3 := hide (q2.out.kept hg3 (fun e => row_ne q1.out q2.out (by decide) e.symm))
      have hB3 := hide (q3.out.grown hg3 q3.out.size (fun j e => (q1.out.lt j e).1))
      replace hO3 := hide hO3
      clear q1 q2 q3 q4 q5 hg3
      go_wp2_with fail
      obtain ⟨g, cap, cur, rfl, hg, _, _, _, _, hce⟩ := hO3.out.parts (by simp)
      go_ret
      show SplP w w3 ([34] ++ dbl s.data.toList ++ [34]) _
      rw [hfin.out]
      exact ⟨hB3.out, g, cap, rfl, hg, hce⟩
end Go.Proofs.YtdlomdbmmhjppaaGreatDoor
namespace Go.Proofs.YtdlomdbmmhjppaaGreatDoor
open Go.RowKit Go.Sort
set_option linter.unusedVariables false

theorem low_start (w : World) (s : ByteArray) (F : UInt8 → UInt8) : LowR w (Lib.bytesWorld w 5 s) w.heap.size (Lib.bytesCells w 5 s).size 0 F s := by
  refine ⟨_, Lib.bytesWorld_at_new w 5 s, rfl, fun j hj => ?_⟩
  have h := Lib.bytesWorld_cell w 5 s j hj
  unfold World.cell? at h
  simp [Lib.bytesWorld_at_new] at h
  rw [if_neg (Nat.not_lt_zero j), h]
  have hl : j < s.data.toList.length := by rw [← Lib.size_eq]; exact hj
  have e : (s.data[j]?.getD 0) = s[j] := by rw [Array.getElem?_eq_getElem (by simpa using hl)]; rfl
  rw [e]
set_option maxRecDepth 100000 in
set_option maxHeartbeats 4000000 in
theorem spl10_other (k : Nat) (s : ByteArray) (i : Int) (sm : Bool) (w : World) (hk : k ≠ 2) (hs : s.size ≤ 65535) (hn : s.size ≤ (Lib.bytesCells (w.alloc (wdO k s i)) 5 s).size) : Calls Tryz.prog 16 #[wdV k s i, .bool sm] w fun e w' => SplP w w' (s.data.toList.map (lowF k sm)) e := by
  have k2 : ((k : Int) == 2) = false := by rw [beq_eq_false_iff_ne]; omega
  have hcv : ∀ w : World, (convert 9 38 (.string s)).run Tryz.prog w = _ := fun w => Lib.run_convert_string_bytes w 9 38 5 s Tryz.underlying9 Tryz.underlying38 Tryz.underlying5
  have hB0 := hide (next (step (Below.refl w.heap.size w) (wdO k s i)) (bytes_below8 (w.alloc (wdO k s i)) s))
  have bk0 := hide ((Blk.new w #[.int .i64 k, .string s, .int .i64 i] 44).keep (bytes_below8 (w.alloc (wdO k s i)) s))
  have R0 := hide (low_start (w.alloc (wdO k s i)) s (lowF k sm))
  rw [World.size_alloc] at R0
  obtain ⟨n, hn'⟩ : ∃ n, (Lib.bytesCells (w.alloc (wdO k s i)) 5 s).size = n := ⟨_, rfl⟩
  rw [hn'] at R0 hn
  replace hn := hide hn
  go_enter Tryz.func16, Tryz.ntmps16
  go_wp2_with fail
  go_loopw [8] (fun a wr => ∃ (m : Nat), m ≤ s.size ∧ a = .int .i64 m ∧ Hid (LowR (w.alloc (wdO k s i)) wr (w.heap.size + 1) n m (lowF k sm) s) ∧ Hid (Blk wr w.heap.size #[.int .i64 k, .string s, .int .i64 i] 44) ∧ Hid (Below w.heap.size w wr)) (fun a _ => s.size - (intOf a).toNat)
  case atStart => exact ⟨0, Nat.zero_le _, rfl, R0, bk0, hB0⟩
  case round =>
    obtain ⟨m, hm, rfl, hR, hbk, hB⟩ := hrel
    obtain ⟨c0, c1, c2⟩ := hbk.out.cells3
    have hm1 : (m : Int) + 1 ≤ 9223372036854775807 := by omega
    by_cases hlt : m < s.size
    · have hki : (m : Int) < s.size := by omega
      obtain ⟨z0, z1⟩ := hR.out.cell hn.out hlt
      cases sm
      · have e : lowF k false s[m] = s[m] := by unfold lowF; rw [if_neg (fun h => by cases h.1)]
        go_wp2_with fail
        go_roundw
        case rel => exact ⟨m + 1, by omega, by go_num, hide (hR.out.stay hlt e), hbk, hB⟩
        case measure => simp [intOf]; omega
      · by_cases hkk : k = 3 ∨ k = 4 ∨ k = 5
        · rcases hkk with rfl | rfl | rfl
          · by_cases q0 : (65 : Int) ≤ (s[m].toNat : Int)
            · by_cases q1 : (s[m].toNat : Int) ≤ 90
              · go_wp2_with fail
                go_roundw
                case rel => exact ⟨m + 1, by omega, by go_num, hide (hR.out.put hn.out hlt _ (lowF_yes (by decide) (by omega) (by omega))), hide ((Below.heap_setCell _ _ _ _ (fun e => absurd e (Nat.ne_of_lt (Nat.lt_succ_self _)))).trans hbk.out), hide (hB.out.setCell (p := ⟨w.heap.size + 1, m, none⟩) (by show w.heap.size ≤ w.heap.size + 1; omega) _)⟩
                case measure => simp [intOf]; omega
              · have e : lowF 3 true s[m] = s[m] := by unfold lowF; rw [if_neg (fun h => q1 (by have := h.2.2.2; omega))]
                go_wp2_with fail
                go_roundw
                case rel => exact ⟨m + 1, by omega, by go_num, hide (hR.out.stay hlt e), hbk, hB⟩
                case measure => simp [intOf]; omega
            · have e : lowF 3 true s[m] = s[m] := by unfold lowF; rw [if_neg (fun h => q0 (by have := h.2.2.1; omega))]
              go_wp2_with fail
              go_roundw
              case rel => exact ⟨m + 1, by omega, by go_num, hide (hR.out.stay hlt e), hbk, hB⟩
              case measure => simp [intOf]; omega
          · by_cases q0 : (65 : Int) ≤ (s[m].toNat : Int)
            · by_cases q1 : (s[m].toNat : Int) ≤ 90
              · go_wp2_with fail
                go_roundw
                case rel => exact ⟨m + 1, by omega, by go_num, hide (hR.out.put hn.out hlt _ (lowF_yes (by decide) (by omega) (by omega))), hide ((Below.heap_setCell _ _ _ _ (fun e => absurd e (Nat.ne_of_lt (Nat.lt_succ_self _)))).trans hbk.out), hide (hB.out.setCell (p := ⟨w.heap.size + 1, m, none⟩) (by show w.heap.size ≤ w.heap.size + 1; omega) _)⟩
                case measure => simp [intOf]; omega
              · have e : lowF 4 true s[m] = s[m] := by unfold lowF; rw [if_neg (fun h => q1 (by have := h.2.2.2; omega))]
                go_wp2_with fail
                go_roundw
                case rel => exact ⟨m + 1, by omega, by go_num, hide (hR.out.stay hlt e), hbk, hB⟩
                case measure => simp [intOf]; omega
            · have e : lowF 4 true s[m] = s[m] := by unfold lowF; rw [if_neg (fun h => q0 (by have := h.2.2.1; omega))]
              go_wp2_with fail
              go_roundw
              case rel => exact ⟨m + 1, by omega, by go_num, hide (hR.out.stay hlt e), hbk, hB⟩
              case measure => simp [intOf]; omega
          · by_cases q0 : (65 : Int) ≤ (s[m].toNat : Int)
            · by_cases q1 : (s[m].toNat : Int) ≤ 90
              · go_wp2_with fail
                go_roundw
                case rel => exact ⟨m + 1, by omega, by go_num, hide (hR.out.put hn.out hlt _ (lowF_yes (by decide) (by omega) (by omega))), hide ((Below.heap_setCell _ _ _ _ (fun e => absurd e (Nat.ne_of_lt (Nat.lt_succ_self _)))).trans hbk.out), hide (hB.out.setCell (p := ⟨w.heap.size + 1, m, none⟩) (by show w.heap.size ≤ w.heap.size + 1; omega) _)⟩
                case measure => simp [intOf]; omega
              · have e : lowF 5 true s[m] = s[m] := by unfold lowF; rw [if_neg (fun h => q1 (by have := h.2.2.2; omega))]
                go_wp2_with fail
                go_roundw
                case rel => exact ⟨m + 1, by omega, by go_num, hide (hR.out.stay hlt e), hbk, hB⟩
                case measure => simp [intOf]; omega
            · have e : lowF 5 true s[m] = s[m] := by unfold lowF; rw [if_neg (fun h => q0 (by have := h.2.2.1; omega))]
              go_wp2_with fail
              go_roundw
              case rel => exact ⟨m + 1, by omega, by go_num, hide (hR.out.stay hlt e), hbk, hB⟩
              case measure => simp [intOf]; omega
        · have e : lowF k true s[m] = s[m] := by unfold lowF; rw [if_neg (fun h => hkk h.2.1)]
          have k3 : ((k : Int) == 3) = false := by rw [beq_eq_false_iff_ne]; omega
          have k4 : ((k : Int) == 4) = false := by rw [beq_eq_false_iff_ne]; omega
          have k5 : ((k : Int) == 5) = false := by rw [beq_eq_false_iff_ne]; omega
          go_wp2_with fail
          go_roundw
          case rel => exact ⟨m + 1, by omega, by go_num, hide (hR.out.stay hlt e), hbk, hB⟩
          case measure => simp [intOf]; omega
    · obtain rfl : m = s.size := by omega
      go_wp2_with fail
      obtain ⟨cur, h1, h2, h3⟩ := hR.out.row
      go_ret
      refine ⟨hB.out, w.heap.size + 1, _, by rw [List.length_map, ← Lib.size_eq]; rfl, by omega, fun j hj => ?_⟩
      have hj2 : j < s.size := by rw [List.length_map, ← Lib.size_eq] at hj; exact hj
      have := row_cellZ h1 (h3 j hj2)
      rw [if_pos hj2] at this
      rw [this, List.getElem_map]
      rfl
end Go.Proofs.YtdlomdbmmhjppaaGreatDoor
namespace Go.Proofs.YtdlomdbmmhjppaaGreatDoor
open Go.RowKit Go.Sort
set_option linter.unusedVariables false

/-- A slice of bytes: empty, or with its cells. -/
def BytesIn (w : World) (a : Option Addr) (len : Nat) : Prop := len = 0 ∨ ∃ b off, a = some ⟨b, off, none⟩ ∧ len ≤ maxLen ∧ ∀ j, j < len → ∃ n : Nat, n < 256 ∧ w.cell? ⟨b, off + j, none⟩ = some (.int .u8 (n : Int))
theorem flatW_set (l : List Wd) (j a : Nat) (h : j < l.length) : (flatW l).set (j * 3 + 2) (.int .i64 (a : Int)) = flatW (l.set j { l[j] with at' := a }) := by
  induction l generalizing j with
  | nil => simp at h
  | cons x l ih =>
    cases j with
    | zero => simp [flatW]
    | succ j =>
      have := ih j (by simpa using h)
      rw [flatW_cons, List.set_append, if_neg (by simp; omega)]
      rw [List.set_cons_succ, flatW_cons]
      congr 1
      rw [show (j + 1) * 3 + 2 - [Value.int IntKind.i64 (x.kind : Int), Value.string (ba x.text), Value.int IntKind.i64 (x.at' : Int)].length = j * 3 + 2 by simp; omega]
      exact this
theorem rowW_set {w : World} {B g cap n : Nat} {l : List Wd} (hn : n = l.length) (h : RowW w B (.slice (some ⟨g, 0, none⟩) n cap) l) (j a : Nat) (hj : j < l.length) :
    RowW (w.setCell ⟨g, j * 3 + 2, none⟩ (.int .i64 (a : Int))) B (.slice (some ⟨g, 0, none⟩) n cap) (l.set j { l[j] with at' := a }) := by
  subst hn
  have h1 := (World.ownsRow.stored h (j * 3 + 2) (.int .i64 (a : Int))).1
  rw [flatW_set l j a hj] at h1
  unfold RowW
  rw [List.length_set]; exact h1
theorem rowW_cells {w : World} {B g cap n : Nat} {l : List Wd} (hn : n = l.length) (h : RowW w B (.slice (some ⟨g, 0, none⟩) n cap) l) (j : Nat) (hj : j < l.length) : WdAt w g j l[j] := by
  subst hn
  have ha : ∀ k, (⟨g, 0, none⟩ : Addr).add k = ⟨g, k, none⟩ := fun k => by unfold Addr.add; split <;> simp_all
  obtain ⟨f1, f2, f3⟩ := flatW_get l j hj
  have c1 := World.ownsRow.cells h (g := g) rfl _ _ f1
  have c2 := World.ownsRow.cells h (g := g) rfl _ _ f2
  have c3 := World.ownsRow.cells h (g := g) rfl _ _ f3
  rw [ha] at c1 c2 c3
  exact ⟨c1, c2, c3⟩
theorem rowW_fr {w : World} {B g cap n : Nat} {l : List Wd} (h : RowW w B (.slice (some ⟨g, 0, none⟩) n cap) l) (k : Nat) : w.frozen? ⟨g, k, none⟩ = false := by
  rcases h.2 with ⟨h', _⟩ | ⟨g', cap', cur, h', hb, hg, _⟩
  · simp at h'
  · have : g = g' := by simpa using (Value.slice.inj h').1
    subst this
    simp [World.frozen?, hg]
/-- Two rows of unlike kinds are apart. -/
theorem rows_ne {w : World} {B B' e e' n n' m m' : Nat} {v v' : Value} {xs xs' : List Value} (h : w.ownsRow B e n v m xs) (h' : w.ownsRow B' e' n' v' m' xs') (hne : e ≠ e') (g : Nat) : v.ownBlock = some g → v'.ownBlock ≠ some g := by
  intro h1 h2
  obtain ⟨c, f, h3⟩ := row_kind h g h1
  obtain ⟨c', f', h4⟩ := row_kind h' g h2
  rw [h3] at h4
  cases h4
  exact hne rfl
section
variable {w : World} {ops : Array Oper} {rest : List Oper} {o : Oper} {a : Act} {Q : Exit → Act → World → Prop} {B X m c : Nat} {v : Value} {L N : List UInt8} {t : ByteArray}
theorem wpList_appT (hg : o.guard = none) (s x : Operand) (hop : o.op = Op.call { callee := Callee.builtin Builtin.append, args := #[s, x], argTypes := #[38, 9] })
    (hs : a.eval s = v) (hx : a.eval x = .string t) (hown : Own w B v L) (hl : L.length + t.size < 1000000) (hB : B ≤ w.heap.size)
    (hK : ∀ v' w', Own w' B v' (L ++ t.data.toList) → w.grownBy w' v.ownBlock → wpList Tryz.prog ops Q rest (a.put o.dst v') w') : wpList Tryz.prog ops Q (o :: rest) a w := by
  obtain ⟨i0, hi, hz0, hz1, hz2⟩ := info_parts info_by8
  refine Lib.wpList_append_own_string _ hg s x 38 9 hop B 5 i0 Tryz.underlying38 Tryz.underlying9 hi hz0 hz1 hz2 v _ _ hs hown t hx (by unfold maxLen; omega) (by omega) hB ?_
  intro v' w' h1 h2 _
  exact hK v' w' (by unfold Own; rw [← vs_str, List.length_append, ← Lib.size_eq]; exact h1) h2
theorem wpList_appL (hg : o.guard = none) (s x : Operand) (hop : o.op = Op.call { callee := Callee.builtin Builtin.append, args := #[s, x], argTypes := #[38, 38] })
    (hs : a.eval s = v) (hx : a.eval x = .slice (some ⟨X, 0, none⟩) N.length c) (hown : Own w B v L) (hc : ∀ j (h : j < N.length), w.cell? ⟨X, j, none⟩ = some (.int .u8 (N[j].toNat : Int))) (hl : L.length + N.length < 1000000) (hB : B ≤ w.heap.size)
    (hK : ∀ v' w', Own w' B v' (L ++ N) → w.grownBy w' v.ownBlock → wpList Tryz.prog ops Q rest (a.put o.dst v') w') : wpList Tryz.prog ops Q (o :: rest) a w := by
  obtain ⟨i0, hi, hz0, hz1, hz2⟩ := info_parts info_by8
  refine wpList_append_own _ hg s x 38 hop B 5 i0 (.int .u8 0) 1 1 Tryz.underlying38 hi hz0 hz1 hz2 rfl (by decide) v _ _ hs hown ⟨X, 0, none⟩ N.length c (vs N) hx (by rw [vs_len, Nat.mul_one]) (fun j u hj => by
    have hjl : j < N.length := by
      rw [← vs_len]; exact (List.getElem?_eq_some_iff.1 hj).1
    rw [vs_get N j hjl] at hj
    cases hj
    rw [show (⟨X, 0, none⟩ : Addr).add j = ⟨X, j, none⟩ by unfold Addr.add; split <;> simp_all]
    exact hc j hjl) (fun u hu => by
    unfold vs at hu
    obtain ⟨x, _, rfl⟩ := List.mem_map.1 hu
    rfl) (by unfold maxLen; omega) (by omega) hB ?_
  intro v' w' h1 h2 _
  exact hK v' w' (by unfold Own; rw [show vs (L ++ N) = vs L ++ vs N by simp [vs], List.length_append]; exact h1) h2
end
/-- What stands between the words: the blank that the last argument's byte chooses. -/
def qOf (f : Nat → Nat) (i : Nat) : List UInt8 := blks.getD (f i % 8) [32]
theorem qOf_mem (f : Nat → Nat) (i : Nat) : qOf f i ∈ blks := by
  unfold qOf
  have h : f i % 8 < blks.length := Nat.mod_lt _ (by decide)
  rw [List.getD_eq_getElem?_getD, List.getElem?_eq_getElem h]
  exact List.getElem_mem h
theorem bls_at (q : Nat → List UInt8) : ∀ (l : List Wd) (p i a j : Nat) (h : j < l.length), ((bls q p i a l)[j]'(by rw [bls_len]; exact h)).kind = l[j].kind ∧ ((bls q p i a l)[j]'(by rw [bls_len]; exact h)).text = l[j].text
  | x :: l, p, i, a, 0, h => ⟨rfl, rfl⟩
  | x :: l, p, i, a, j + 1, h => by
    have := bls_at q l x.kind (i + 1) (a + ((if p = 4 then [] else q i) ++ spl x).length) j (by simpa using h)
    simpa [bls] using this
end Go.Proofs.YtdlomdbmmhjppaaGreatDoor
namespace Go.Proofs.YtdlomdbmmhjppaaGreatDoor
open Go.RowKit Go.Sort
set_option linter.unusedVariables false

theorem txt_short : ∀ (l b : List UInt8) (n : Nat), txt l = some (b, n) → b.length ≤ n
  | [], b, n, h => by simp [txt] at h
  | [c], b, n, h => by
    simp only [txt] at h
    split at h
    · cases h; simp
    · cases h
  | c :: d :: r, b, n, h => by
    rw [txt] at h
    split at h
    · split at h
      · rw [Option.map_eq_some_iff] at h
        obtain ⟨⟨b', n'⟩, h1, h2⟩ := h
        have := txt_short r b' n' h1
        cases h2; simp; omega
      · cases h; simp
    · rw [Option.map_eq_some_iff] at h
      obtain ⟨⟨b', n'⟩, h1, h2⟩ := h
      have := txt_short (d :: r) b' n' h1
      cases h2; simp; omega
theorem tok_short {R : List UInt8 → Bool} {l : List UInt8} {k n : Nat} {t : List UInt8} (h : tok R l = .ok k t n) : t.length ≤ l.length := by
  have hl := tok_len h
  have ht : (l.take n).length = n := by rw [List.length_take]; omega
  rcases tok_cases h with ⟨_, rfl, _⟩ | ⟨_, _, hx, h2⟩ | ⟨_, rfl, _⟩ | ⟨_, rfl, _⟩ | ⟨_, rfl, _⟩ | ⟨_, _, rfl, _⟩
  · unfold trim0
    split
    · simp; omega
    · have := (List.dropWhile_suffix (fun x : UInt8 => x == 48) (l := l.take n)).length_le
      omega
  · have := txt_short _ _ _ hx
    omega
  · omega
  · unfold upp; rw [List.length_map]; omega
  · unfold upp; rw [List.length_map]; omega
  · omega
theorem spn_short {R : List UInt8 → Bool} {L : List UInt8} : ∀ (l : List Wd) (p : Nat), Spn R L p l → ∀ x ∈ l, x.text.length ≤ L.length
  | [], p, h, x, hx => by cases hx
  | y :: l, p, h, x, hx => by
    obtain ⟨_, _, n, h3, _, h5⟩ := h
    rcases List.mem_cons.1 hx with rfl | hx
    · have := tok_short h3
      rw [List.length_drop] at this; omega
    · exact spn_short l _ h5 x hx
theorem cutR_short {s : ByteArray} {ws : List Wd} (h : cutR s = .ok ws) : ∀ x ∈ ws, x.text.length ≤ 65535 := by
  unfold cutR at h
  split at h
  · cases h
  · next hs =>
    obtain ⟨l, e, hp⟩ := cut_spn refL s.data.toList _ 0 [] ws (Nat.le_refl _) (Nat.zero_le _) h
    rw [List.nil_append] at e
    subst e
    intro x hx
    have := spn_short ws 0 hp x hx
    rw [← Lib.size_eq] at this; omega
theorem spl_short {x : Wd} (h : x.text.length ≤ 65535) : (spl x).length ≤ 131072 := by
  unfold spl
  split
  · have := dbl_le x.text
    simp; omega
  · omega
/-- Some words are written, the others not yet. -/
def mix (ws' ws : List Wd) (i : Nat) : List Wd := ws'.take i ++ ws.drop i
section
variable {ws' ws : List Wd} {i : Nat}
theorem mix_len (h : ws'.length = ws.length) (hi : i ≤ ws.length) : (mix ws' ws i).length = ws.length := by unfold mix; rw [List.length_append, List.length_take, List.length_drop]; omega
theorem mix_0 : mix ws' ws 0 = ws := by unfold mix; simp
theorem mix_all (h : ws'.length = ws.length) : mix ws' ws ws.length = ws' := by unfold mix; rw [← h, List.take_length, h, List.drop_length, List.append_nil]
theorem mix_at (h : ws'.length = ws.length) (hi : i < ws.length) : (mix ws' ws i)[i]? = some ws[i] := by
  unfold mix
  rw [List.getElem?_append_right (by rw [List.length_take]; omega), List.length_take, List.getElem?_drop, show i + (i - min i ws'.length) = i by omega]
  exact List.getElem?_eq_getElem hi
theorem mix_prev (h : ws'.length = ws.length) {j : Nat} (hi : j + 1 ≤ ws.length) : (mix ws' ws (j + 1))[j]? = ws'[j]? := by
  unfold mix
  rw [List.getElem?_append_left (by rw [List.length_take]; omega), List.getElem?_take, if_pos (by omega)]
theorem mix_set (h : ws'.length = ws.length) (hi : i < ws.length) {y : Wd} (hy : ws'[i]? = some y) : (mix ws' ws i).set i y = mix ws' ws (i + 1) := by
  have hi' : i < ws'.length := by omega
  have e : ws'[i] = y := by rw [List.getElem?_eq_getElem hi'] at hy; exact Option.some.inj hy
  unfold mix
  rw [List.set_append, if_neg (by rw [List.length_take]; omega), List.length_take, show i - min i ws'.length = 0 by omega, List.drop_eq_getElem_cons hi, List.set_cons_zero, List.take_succ_eq_append_getElem hi', e]
  simp
end
/-- Where the loop stands. -/
structure BSt (q : Nat → List UInt8) (ws : List Wd) (i : Nat) (M : List UInt8) (p : Nat) : Prop where
  full : bld q 4 0 ws = M ++ bld q p i (ws.drop i)
  new : (bls q 4 0 0 ws).drop i = bls q p i M.length (ws.drop i)
  first : i = 0 → p = 4
  prev : ∀ j, i = j + 1 → ∃ y, (bls q 4 0 0 ws)[j]? = some y ∧ y.kind = p
theorem BSt.start (q : Nat → List UInt8) (ws : List Wd) : BSt q ws 0 [] 4 := ⟨rfl, rfl, fun _ => rfl, fun j h => by omega⟩
theorem BSt.step {q : Nat → List UInt8} {ws : List Wd} {i p : Nat} {M : List UInt8} (h : BSt q ws i M p) (hi : i < ws.length) :
    BSt q ws (i + 1) (M ++ (if p = 4 then [] else q i) ++ spl ws[i]) ws[i].kind ∧ (bls q 4 0 0 ws)[i]? = some { ws[i] with at' := (M ++ (if p = 4 then [] else q i)).length } := by
  have hf := h.full
  have hn := h.new
  rw [List.drop_eq_getElem_cons hi] at hf hn
  rw [bld] at hf
  rw [bls] at hn
  have hlen := bls_len q ws 4 0 0
  have hi' : i < (bls q 4 0 0 ws).length := by omega
  rw [List.drop_eq_getElem_cons hi'] at hn
  have hn1 := (List.cons.inj hn).1
  have hn2 := (List.cons.inj hn).2
  have hy : (bls q 4 0 0 ws)[i]? = some { ws[i] with at' := (M ++ (if p = 4 then [] else q i)).length } := by
    rw [List.getElem?_eq_getElem hi', hn1, List.length_append]
  refine ⟨⟨?_, ?_, fun e => by omega, fun j e => ?_⟩, hy⟩
  · rw [hf]; simp only [List.append_assoc]
  · rw [hn2]; congr 1; simp only [List.length_append]; omega
  · obtain rfl : i = j := by omega
    exact ⟨_, hy, rfl⟩
end Go.Proofs.YtdlomdbmmhjppaaGreatDoor
