/- A tree's one text as a function: levels, signs, brackets; how long it is; no Go in sight. -/
import Derived.Test.YtnfoknifofglbaaDoorMay9
import Derived.Test.YtnfoknifofglbaaDoorPlaces
namespace Go.Proofs.YtnfoknifofglbaaDoor.T9
open Go.RowKit Go.Sort
set_option linter.unusedVariables false

/-- An operation's sign, of two. -/
def sgB (op : Int) : List UInt8 :=
  if op = 1 then [94] else if op = 2 then [42] else if op = 3 then [47] else if op = 4 then [43] else if op = 5 then [45] else if op = 6 then [38] else
  if op = 7 then [61] else if op = 8 then [60, 62] else if op = 9 then [60] else if op = 10 then [60, 61] else if op = 11 then [62] else if op = 12 then [62, 61] else []
/-- Its level. -/
def lvB (op : Int) : Int := if op = 1 then 5 else if op = 2 ∨ op = 3 then 4 else if op = 4 ∨ op = 5 then 3 else if op = 6 then 2 else 1
/-- A node's level. -/
def lv (n : Nd) : Int := if n.kind = 8 then lvB n.op else if n.kind = 7 then (if n.op = 3 then 7 else 6) else 8
theorem op_cases {op : Int} (h : 1 ≤ op ∧ op ≤ 12) : op = 1 ∨ op = 2 ∨ op = 3 ∨ op = 4 ∨ op = 5 ∨ op = 6 ∨ op = 7 ∨ op = 8 ∨ op = 9 ∨ op = 10 ∨ op = 11 ∨ op = 12 := by omega
theorem lv_pos (n : Nd) : 1 ≤ lv n := by
  unfold lv lvB
  repeat' split
  all_goals omega
/-- A text between quotes: each quote twice. -/
def qt (l : List UInt8) : List UInt8 := l.flatMap fun c => if c = 34 then [34, 34] else [c]
def errL (e : Int) : List UInt8 :=
  if e = 1 then [35, 78, 65, 77, 69, 63] else if e = 2 then [35, 78, 85, 77, 33] else if e = 3 then [35, 82, 69, 70, 33] else if e = 4 then [35, 86, 65, 76, 85, 69, 33] else if e = 5 then [35, 68, 73, 86, 47, 48, 33] else [35, 78, 47, 65]
/-- A reference's text. -/
def rfT (r : Rf) : List UInt8 := (refB r.row.toNat r.col.toNat r.pr r.pc).data.toList
def leafL (n : Nd) : List UInt8 :=
  if n.kind = 1 then Lib.itoa n.num else if n.kind = 2 then [34] ++ qt n.text.data.toList ++ [34] else if n.kind = 3 then (if n.num = 1 then [84, 82, 85, 69] else [70, 65, 76, 83, 69]) else if n.kind = 4 then errL n.num else
  if n.kind = 6 then rfT n.ref ++ [58] ++ rfT n.to else rfT n.ref
/-- A function's name. -/
def nameL (f : Int) : List UInt8 := match rowOf f with | some r => r.1.data.toList | none => []
/-- A text of a level, from a level on: in brackets where its own is below. -/
def fr (n : Int) (p : List UInt8 × Int) : List UInt8 := if p.2 < n then [40] ++ p.1 ++ [41] else p.1
/-- Texts with commas between them. -/
def argF : Bool → List (List UInt8 × Int) → List UInt8 | _, [] => [] | f, a :: r => (if f then [44] else []) ++ a.1 ++ argF true r
def aheadL (op : Int) : List UInt8 := if op = 1 then [45] else if op = 2 then [43] else []
def behindL (op : Int) : List UInt8 := if op = 1 then [] else if op = 2 then [] else [37]
/-- A node's text, by its kids'. -/
def nodeT (n : Nd) (l : List (List UInt8 × Int)) : List UInt8 :=
  if n.kind = 7 then aheadL n.op ++ fr (lv n) (l.getD 0 ([], 8)) ++ behindL n.op
  else if n.kind = 8 then fr (lv n) (l.getD 0 ([], 8)) ++ sgB n.op ++ fr (lv n + 1) (l.getD 1 ([], 8))
  else if n.kind = 9 then nameL n.fn ++ [40] ++ argF false l ++ [41]
  else leafL n
mutual
def txE : Ex → List UInt8 | .mk nd ks => nodeT nd (txL ks)
def txL : List Ex → List (List UInt8 × Int) | [] => [] | k :: r => (txE k, lv k.nd) :: txL r
end
/-- A tree's text, from a level on. -/
def frE (n : Int) (t : Ex) : List UInt8 := fr n (txE t, lv t.nd)
theorem len_two {α : Type} : ∀ {l : List α}, l.length = 2 → ∃ a b, l = [a, b]
  | [a, b], _ => ⟨a, b, rfl⟩
theorem txL_map : ∀ ks : List Ex, txL ks = ks.map fun k => (txE k, lv k.nd)
  | [] => by rw [txL]; rfl
  | k :: r => by rw [txL, txL_map r]; rfl
theorem txE_mk (nd : Nd) (ks : List Ex) : txE (.mk nd ks) = nodeT nd (ks.map fun k => (txE k, lv k.nd)) := by rw [txE, txL_map]
theorem argF_len : ∀ (l : List (List UInt8 × Int)) (f : Bool) , (argF f l).length ≤ (l.map fun p => p.1.length + 1).sum
  | [], f => by simp [argF]
  | a :: r, f => by
    have := argF_len r true
    simp only [argF, List.length_append, List.map_cons, List.sum_cons]
    cases f <;> simp <;> omega
theorem fr_len (n : Int) (p : List UInt8 × Int) : (fr n p).length ≤ p.1.length + 2 := by
  unfold fr; split <;> simp
theorem qt_cons (c : UInt8) (r : List UInt8) : qt (c :: r) = (if c = 34 then [34, 34] else [c]) ++ qt r := rfl
theorem qt_len : ∀ l : List UInt8, (qt l).length ≤ 2 * l.length
  | [] => by simp [qt]
  | c :: r => by
    have := qt_len r
    rw [qt_cons, List.length_append, List.length_cons]
    split
    · simp; omega
    · simp; omega
theorem sgB_len (op : Int) : (sgB op).length ≤ 2 := by unfold sgB; (repeat' split) <;> simp
theorem aheadL_len (op : Int) : (aheadL op).length + (behindL op).length ≤ 1 := by unfold aheadL behindL; (repeat' split) <;> simp
theorem errL_len (e : Int) : (errL e).length ≤ 7 := by unfold errL; (repeat' split) <;> simp
theorem dec_len5 (r : Nat) (h : r < 65536) : (Lib.itoa ((r : Int) + 1)).length ≤ 5 := by
  have := dec_len 4 (r + 1) (by omega)
  have e := itoa_pos (r + 1)
  rw [show ((r + 1 : Nat) : Int) = (r : Int) + 1 from rfl] at e
  rw [e]; exact this
theorem rfT_len (r : Rf) (h : mayB r.row r.col = true) : (rfT r).length ≤ 9 := by
  have h := of_decide_eq_true h
  have e := dec_len5 r.row.toNat (by omega)
  have h1 := pinB_size r.pr
  have h2 := pinB_size r.pc
  have h3 := letB_size r.col.toNat
  have h4 := numeral_size ((r.row.toNat : Int) + 1)
  have h5 : (rfT r).length = (refB r.row.toNat r.col.toNat r.pr r.pc).size := by unfold rfT; rw [Lib.size_eq]
  rw [h5]
  unfold refB
  rw [ByteArray.size_append, ByteArray.size_append, ByteArray.size_append]
  omega
theorem nameL_len (f : Int) : (nameL f).length ≤ 16 := by
  unfold nameL
  have hall : ∀ r ∈ tab, r.1.data.toList.length ≤ 16 := by decide +kernel
  unfold rowOf
  split
  · rename_i r hr
    split at hr
    · exact hall _ (List.mem_of_getElem? hr)
    · cases hr
  · simp
theorem leafL_len (n : Nd) (len : Nat) (h : toldB n len = true) (h7 : n.kind ≠ 7) (h8 : n.kind ≠ 8) (h9 : n.kind ≠ 9) (hi : n.num ≤ 9223372036854775807) : (leafL n).length ≤ 20 + (if n.kind = 2 then 2 * n.text.size else 0) := by
  unfold toldB at h
  rw [Bool.and_eq_true, Bool.and_eq_true] at h
  have ho := h.1.1
  unfold okOf at ho
  unfold leafL
  split
  · rename_i hk
    rw [if_pos hk] at ho
    have hl := numeral_len n.num (by have := of_decide_eq_true ho; omega) hi
    have := numeral_size n.num
    omega
  · split
    · rename_i hk
      have := qt_len n.text.data.toList
      have e := Lib.size_eq n.text
      simp only [List.length_append, List.length_cons, List.length_nil]
      omega
    · rename_i hk2
      split
      · split <;> simp
      · split
        · have := errL_len n.num; omega
        · rename_i k1 k3 k4
          rw [if_neg k1, if_neg hk2, if_neg k3, if_neg k4] at ho
          split
          · rename_i k6
            rw [if_neg (by omega), if_pos k6, Bool.and_eq_true] at ho
            have a := rfT_len _ ho.1
            have b := rfT_len _ ho.2
            simp only [List.length_append, List.length_cons, List.length_nil]
            omega
          · rename_i k6
            rw [if_neg k6, if_neg h7, if_neg h8, if_neg h9] at ho
            split at ho
            · have a := rfT_len _ ho; omega
            · cases ho
mutual
/-- Its number has 64 bits, in all nodes. -/
def NumE : Ex → Prop | .mk nd ks => nd.num ≤ 9223372036854775807 ∧ NumL ks
def NumL : List Ex → Prop | [] => True | k :: r => NumE k ∧ NumL r
end
mutual
/-- How long a text is. -/
theorem txE_len : ∀ (t : Ex), allE t = true → NumE t → (txE t).length + 4 ≤ 27 * nodesE t + 2 * bytesE t
  | .mk nd ks, h, hN => by
    rw [allE, Bool.and_eq_true] at h
    rw [NumE] at hN
    rw [txE, nodesE, bytesE]
    have ih := txL_len ks h.2 hN.2
    unfold nodeT
    split
    · rename_i hk
      have e : ks.length = 1 := by
        have := h.1; unfold toldB okOf at this; simp only [hk] at this; simp at this; exact this.1.1.2.2
      rw [if_neg (by omega)]
      obtain ⟨k, rfl⟩ := List.length_eq_one_iff.1 e
      rw [txL, txL] at ih ⊢
      simp only [List.map_cons, List.map_nil, List.sum_cons, List.sum_nil] at ih
      have hf := fr_len (lv nd) (txE k, lv k.nd)
      have hs := aheadL_len nd.op
      simp only [List.getD_cons_zero, List.length_append]
      simp only at hf
      omega
    · split
      · rename_i hk7 hk
        have e : ks.length = 2 := by
          have := h.1; unfold toldB okOf at this; simp only [hk] at this; simp at this; exact this.1.1.2.2
        rw [if_neg (by omega)]
        obtain ⟨k, j, rfl⟩ := len_two e
        rw [txL, txL, txL] at ih ⊢
        simp only [List.map_cons, List.map_nil, List.sum_cons, List.sum_nil] at ih
        have hf := fr_len (lv nd) (txE k, lv k.nd)
        have hg := fr_len (lv nd + 1) (txE j, lv j.nd)
        have hs := sgB_len nd.op
        simp only [List.getD_cons_zero, List.getD_cons_succ, List.length_append]
        simp only at hf hg
        omega
      · split
        · rename_i hk7 hk8 hk
          rw [if_neg (by omega)]
          have ha := argF_len (txL ks) false
          have hn := nameL_len nd.fn
          have hm : ((txL ks).map fun p => p.1.length + 1).sum ≤ ((txL ks).map fun p => p.1.length + 4).sum := by
            generalize txL ks = l
            induction l with
            | nil => simp
            | cons a r ih => simp only [List.map_cons, List.sum_cons]; omega
          simp only [List.length_append, List.length_cons, List.length_nil]
          omega
        · rename_i h7 h8 h9
          have := leafL_len nd ks.length h.1 h7 h8 h9 hN.1
          split at this
          · rename_i q; rw [if_pos q]; omega
          · rename_i q; rw [if_neg q]; omega
theorem txL_len : ∀ (ks : List Ex), allL ks = true → NumL ks → ((txL ks).map fun p => p.1.length + 4).sum ≤ 27 * nodesL ks + 2 * bytesL ks
  | [], _, _ => by rw [txL, nodesL, bytesL]; simp
  | k :: r, h, hN => by
    rw [allL, Bool.and_eq_true] at h
    rw [NumL] at hN
    rw [txL, nodesL, bytesL]
    have a := txE_len k h.1 hN.1
    have b := txL_len r h.2 hN.2
    simp only [List.map_cons, List.sum_cons]
    omega
end
end Go.Proofs.YtnfoknifofglbaaDoor.T9
