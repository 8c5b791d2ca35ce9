/- A tree's one text as a function: levels, signs, brackets; how long it is; no Go in sight. Replacing a quote by two is writing each quote twice; of no program. Kids' texts stand in a node's text, in their order: the mathematics of PrintKids. -/
import Derived.Test.YtdlomdbmmhjppaaGreatDoorMyJ
import Derived.Test.YtdlomdbmmhjppaaGreatDoorPlaces
import Derived.Lib.ReplaceLaws
namespace Go.Proofs.YtdlomdbmmhjppaaGreatDoor.T9
open Go.RowKit Go.Sort
set_option linter.unusedVariables false

/-- An operation's sign, of two. -/
def sgB (op : Int) : List UInt8 :=
  if op = 1 then [94] else if op = 2 then [42] else if op = 3 then [47] else if op = 4 then [43] else if op = 5 then [45] else if op = 6 then [38] else
  if op = 7 then [61] else if op = 8 then [60, 62] else if op = 9 then [60] else if op = 10 then [60, 61] else if op = 11 then [62] else if op = 12 then [62, 61] else []
/-- Its level. -/
def lvB (op : Int) : Int := if op = 1 then 5 else if op = 2 ∨ op = 3 then 4 else if op = 4 ∨ op = 5 then 3 else if op = 6 then 2 else 1
/-- A node's level. -/
def lv (n : Nd) : Int := if n.kind = 8 then lvB n.op else if n.kind = 7 then (if n.op = 3 then 7 else 6) else 8
theorem op_cases {op : Int} (h : 1 ≤ op ∧ op ≤ 12) : op = 1 ∨ op = 2 ∨ op = 3 ∨ op = 4 ∨ op = 5 ∨ op = 6 ∨ op = 7 ∨ op = 8 ∨ op = 9 ∨ op = 10 ∨ op = 11 ∨ op = 12 := by omega
theorem lv_pos (n : Nd) : 1 ≤ lv n := by
  unfold lv lvB
  repeat' split
  all_goals omega
/-- A text between quotes: each quote twice. -/
def qt (l : List UInt8) : List UInt8 := l.flatMap fun c => if c = 34 then [34, 34] else [c]
def errL (e : Int) : List UInt8 :=
  if e = 1 then [35, 78, 65, 77, 69, 63] else if e = 2 then [35, 78, 85, 77, 33] else if e = 3 then [35, 82, 69, 70, 33] else if e = 4 then [35, 86, 65, 76, 85, 69, 33] else if e = 5 then [35, 68, 73, 86, 47, 48, 33] else [35, 78, 47, 65]
/-- A reference's text. -/
def rfT (r : Rf) : List UInt8 := (refB r.row.toNat r.col.toNat r.pr r.pc).data.toList
def leafL (n : Nd) : List UInt8 :=
  if n.kind = 1 then Lib.itoa n.num else if n.kind = 2 then [34] ++ qt n.text.data.toList ++ [34] else if n.kind = 3 then (if n.num = 1 then [84, 82, 85, 69] else [70, 65, 76, 83, 69]) else if n.kind = 4 then errL n.num else
  if n.kind = 6 then rfT n.ref ++ [58] ++ rfT n.to else rfT n.ref
/-- A function's name. -/
def nameL (f : Int) : List UInt8 := match rowOf f with | some r => r.1.data.toList | none => []
/-- A text of a level, from a level on: in brackets where its own is below. -/
def fr (n : Int) (p : List UInt8 × Int) : List UInt8 := if p.2 < n then [40] ++ p.1 ++ [41] else p.1
/-- Texts with commas between them. -/
def argF : Bool → List (List UInt8 × Int) → List UInt8 | _, [] => [] | f, a :: r => (if f then [44] else []) ++ a.1 ++ argF true r
def aheadL (op : Int) : List UInt8 := if op = 1 then [45] else if op = 2 then [43] else []
def behindL (op : Int) : List UInt8 := if op = 1 then [] else if op = 2 then [] else [37]
/-- A node's text, by its kids'. -/
def nodeT (n : Nd) (l : List (List UInt8 × Int)) : List UInt8 :=
  if n.kind = 7 then aheadL n.op ++ fr (lv n) (l.getD 0 ([], 8)) ++ behindL n.op
  else if n.kind = 8 then fr (lv n) (l.getD 0 ([], 8)) ++ sgB n.op ++ fr (lv n + 1) (l.getD 1 ([], 8))
  else if n.kind = 9 then nameL n.fn ++ [40] ++ argF false l ++ [41]
  else leafL n
mutual
def txE : Ex → List UInt8 | .mk nd ks => nodeT nd (txL ks)
def txL : List Ex → List (List UInt8 × Int) | [] => [] | k :: r => (txE k, lv k.nd) :: txL r
end
/-- A tree's text, from a level on. -/
def frE (n : Int) (t : Ex) : List UInt8 := fr n (txE t, lv t.nd)
theorem len_two {α : Type} : ∀ {l : List α}, l.length = 2 → ∃ a b, l = [a, b]
  | [a, b], _ => ⟨a, b, rfl⟩
theorem txL_map : ∀ ks : List Ex, txL ks = ks.map fun k => (txE k, lv k.nd)
  | [] => by rw [txL]; rfl
  | k :: r => by rw [txL, txL_map r]; rfl
theorem txE_mk (nd : Nd) (ks : List Ex) : txE (.mk nd ks) = nodeT nd (ks.map fun k => (txE k, lv k.nd)) := by rw [txE, txL_map]
theorem argF_len : ∀ (l : List (List UInt8 × Int)) (f : Bool) , (argF f l).length ≤ (l.map fun p => p.1.length + 1).sum
  | [], f => by simp [argF]
  | a :: r, f => by
    have := argF_len r true
    simp only [argF, List.length_append, List.map_cons, List.sum_cons]
    cases f <;> simp <;> omega
theorem fr_len (n : Int) (p : List UInt8 × Int) : (fr n p).length ≤ p.1.length + 2 := by
  unfold fr; split <;> simp
theorem qt_cons (c : UInt8) (r : List UInt8) : qt (c :: r) = (if c = 34 then [34, 34] else [c]) ++ qt r := rfl
theorem qt_len : ∀ l : List UInt8, (qt l).length ≤ 2 * l.length
  | [] => by simp [qt]
  | c :: r => by
    have := qt_len r
    rw [qt_cons, List.length_append, List.length_cons]
    split
    · simp; omega
    · simp; omega
theorem sgB_len (op : Int) : (sgB op).length ≤ 2 := by unfold sgB; (repeat' split) <;> simp
theorem aheadL_len (op : Int) : (aheadL op).length + (behindL op).length ≤ 1 := by unfold aheadL behindL; (repeat' split) <;> simp
theorem errL_len (e : Int) : (errL e).length ≤ 7 := by unfold errL; (repeat' split) <;> simp
theorem dec_len5 (r : Nat) (h : r < 65536) : (Lib.itoa ((r : Int) + 1)).length ≤ 5 := by
  have := dec_len 4 (r + 1) (by omega)
  have e := itoa_pos (r + 1)
  rw [show ((r + 1 : Nat) : Int) = (r : Int) + 1 from rfl] at e
  rw [e]; exact this
theorem rfT_len (r : Rf) (h : mayB r.row r.col = true) : (rfT r).length ≤ 9 := by
  have h := of_decide_eq_true h
  have e := dec_len5 r.row.toNat (by omega)
  have h1 := pinB_size r.pr
  have h2 := pinB_size r.pc
  have h3 := letB_size r.col.toNat
  have h4 := numeral_size ((r.row.toNat : Int) + 1)
  have h5 : (rfT r).length = (refB r.row.toNat r.col.toNat r.pr r.pc).size := by unfold rfT; rw [Lib.size_eq]
  rw [h5]
  unfold refB
  rw [ByteArray.size_append, ByteArray.size_append, ByteArray.size_append]
  omega
theorem nameL_len (f : Int) : (nameL f).length ≤ 16 := by
  unfold nameL
  have hall : ∀ r ∈ tab, r.1.data.toList.length ≤ 16 := by decide +kernel
  unfold rowOf
  split
  · rename_i r hr
    split at hr
    · exact hall _ (List.mem_of_getElem? hr)
    · cases hr
  · simp
theorem leafL_len (n : Nd) (len : Nat) (h : toldB n len = true) (h7 : n.kind ≠ 7) (h8 : n.kind ≠ 8) (h9 : n.kind ≠ 9) (hi : n.num ≤ 9223372036854775807) : (leafL n).length ≤ 20 + (if n.kind = 2 then 2 * n.text.size else 0) := by
  unfold toldB at h
  rw [Bool.and_eq_true, Bool.and_eq_true] at h
  have ho := h.1.1
  unfold okOf at ho
  unfold leafL
  split
  · rename_i hk
    rw [if_pos hk] at ho
    have hl := numeral_len n.num (by have := of_decide_eq_true ho; omega) hi
    have := numeral_size n.num
    omega
  · split
    · rename_i hk
      have := qt_len n.text.data.toList
      have e := Lib.size_eq n.text
      simp only [List.length_append, List.length_cons, List.length_nil]
      omega
    · rename_i hk2
      split
      · split <;> simp
      · split
        · have := errL_len n.num; omega
        · rename_i k1 k3 k4
          rw [if_neg k1, if_neg hk2, if_neg k3, if_neg k4] at ho
          split
          · rename_i k6
            rw [if_neg (by omega), if_pos k6, Bool.and_eq_true] at ho
            have a := rfT_len _ ho.1
            have b := rfT_len _ ho.2
            simp only [List.length_append, List.length_cons, List.length_nil]
            omega
          · rename_i k6
            rw [if_neg k6, if_neg h7, if_neg h8, if_neg h9] at ho
            split at ho
            · have a := rfT_len _ ho; omega
            · cases ho
mutual
/-- Its number has 64 bits, in all nodes. -/
def NumE : Ex → Prop | .mk nd ks => nd.num ≤ 9223372036854775807 ∧ NumL ks
def NumL : List Ex → Prop | [] => True | k :: r => NumE k ∧ NumL r
end
mutual
/-- How long a text is. -/
theorem txE_len : ∀ (t : Ex), allE t = true → NumE t → (txE t).length + 4 ≤ 27 * nodesE t + 2 * bytesE t
  | .mk nd ks, h, hN => by
    rw [allE, Bool.and_eq_true] at h
    rw [NumE] at hN
    rw [txE, nodesE, bytesE]
    have ih := txL_len ks h.2 hN.2
    unfold nodeT
    split
    · rename_i hk
      have e : ks.length = 1 := by
        have := h.1; unfold toldB okOf at this; simp only [hk] at this; simp at this; exact this.1.1.2.2
      rw [if_neg (by omega)]
      obtain ⟨k, rfl⟩ := List.length_eq_one_iff.1 e
      rw [txL, txL] at ih ⊢
      simp only [List.map_cons, List.map_nil, List.sum_cons, List.sum_nil] at ih
      have hf := fr_len (lv nd) (txE k, lv k.nd)
      have hs := aheadL_len nd.op
      simp only [List.getD_cons_zero, List.length_append]
      simp only at hf
      omega
    · split
      · rename_i hk7 hk
        have e : ks.length = 2 := by
          have := h.1; unfold toldB okOf at this; simp only [hk] at this; simp at this; exact this.1.1.2.2
        rw [if_neg (by omega)]
        obtain ⟨k, j, rfl⟩ := len_two e
        rw [txL, txL, txL] at ih ⊢
        simp only [List.map_cons, List.map_nil, List.sum_cons, List.sum_nil] at ih
        have hf := fr_len (lv nd) (txE k, lv k.nd)
        have hg := fr_len (lv nd + 1) (txE j, lv j.nd)
        have hs := sgB_len nd.op
        simp only [List.getD_cons_zero, List.getD_cons_succ, List.length_append]
        simp only at hf hg
        omega
      · split
        · rename_i hk7 hk8 hk
          rw [if_neg (by omega)]
          have ha := argF_len (txL ks) false
          have hn := nameL_len nd.fn
          have hm : ((txL ks).map fun p => p.1.length + 1).sum ≤ ((txL ks).map fun p => p.1.length + 4).sum := by
            generalize txL ks = l
            induction l with
            | nil => simp
            | cons a r ih => simp only [List.map_cons, List.sum_cons]; omega
          simp only [List.length_append, List.length_cons, List.length_nil]
          omega
        · rename_i h7 h8 h9
          have := leafL_len nd ks.length h.1 h7 h8 h9 hN.1
          split at this
          · rename_i q; rw [if_pos q]; omega
          · rename_i q; rw [if_neg q]; omega
theorem txL_len : ∀ (ks : List Ex), allL ks = true → NumL ks → ((txL ks).map fun p => p.1.length + 4).sum ≤ 27 * nodesL ks + 2 * bytesL ks
  | [], _, _ => by rw [txL, nodesL, bytesL]; simp
  | k :: r, h, hN => by
    rw [allL, Bool.and_eq_true] at h
    rw [NumL] at hN
    rw [txL, nodesL, bytesL]
    have a := txE_len k h.1 hN.1
    have b := txL_len r h.2 hN.2
    simp only [List.map_cons, List.sum_cons]
    omega
end
end Go.Proofs.YtdlomdbmmhjppaaGreatDoor.T9
namespace Go.Proofs.YtdlomdbmmhjppaaGreatDoor.T9
open Go.RowKit
set_option linter.unusedVariables false

theorem qidx_cons (b : UInt8) (l : List UInt8) (h : [34].isPrefixOf (b :: l) = false) : Lib.index (b :: l) [34] = if Lib.index l [34] == -1 then -1 else Lib.index l [34] + 1 := by
  rw [Lib.index, h]; rfl
theorem qcnt_fuel : ∀ (f : Nat) (l : List UInt8), l.length < f → ∀ f', l.length < f' → Lib.countFrom [34] f l = Lib.countFrom [34] f' l
  | 0, l, h, f', h' => absurd h (Nat.not_lt_zero _)
  | f + 1, l, h, 0, h' => absurd h' (Nat.not_lt_zero _)
  | f + 1, l, h, f' + 1, h' => by
    unfold Lib.countFrom
    split
    · rfl
    · next hn =>
      have hge := Lib.index_ge l [34]
      have h0 : Lib.index l [34] ≠ -1 := by simpa using hn
      have hr := Lib.index_room l [34] (by omega)
      simp only [List.length_cons, List.length_nil] at hr
      rw [qcnt_fuel f _ (by rw [List.length_drop]; simp; omega) f' (by rw [List.length_drop]; simp; omega)]
def qrep (l : List UInt8) : List UInt8 := Lib.replaceK [34] [34, 34] (Lib.count l [34]) l
theorem qrep_none {l : List UInt8} (h : Lib.index l [34] = -1) : qrep l = l := by
  unfold qrep Lib.count Lib.countFrom
  rw [h]; rfl
theorem qrep_hit {l : List UInt8} {i : Nat} (h : Lib.index l [34] = i) : qrep l = l.take i ++ [34, 34] ++ qrep (l.drop (i + 1)) := by
  have hm : ¬ (Lib.index l [34] == -1) = true := fun e => by have := beq_iff_eq.1 e; omega
  have hr := Lib.index_room l [34] (by omega)
  simp at hr
  have hc : Lib.count l [34] = Lib.count (l.drop (i + 1)) [34] + 1 := by
    unfold Lib.count
    rw [Lib.countFrom, if_neg hm, h]
    simp only [Int.toNat_natCast, List.length_cons, List.length_nil, Nat.zero_add]
    rw [qcnt_fuel l.length _ (by rw [List.length_drop]; omega) ((l.drop (i + 1)).length + 1) (by omega)]
    omega
  unfold qrep
  rw [hc, Lib.replaceK_hit _ _ _ _ i h]
  rfl
theorem qrep_cons {b : UInt8} {l : List UInt8} (h : [34].isPrefixOf (b :: l) = false) : qrep (b :: l) = b :: qrep l := by
  have hi := qidx_cons b l h
  have hge := Lib.index_ge l [34]
  by_cases hn : Lib.index l [34] = -1
  · rw [hn] at hi
    rw [qrep_none hn, qrep_none (by rw [hi]; rfl)]
  · obtain ⟨i, e⟩ : ∃ i : Nat, Lib.index l [34] = i := ⟨(Lib.index l [34]).toNat, by omega⟩
    rw [if_neg (by simpa using hn), e] at hi
    rw [qrep_hit e, qrep_hit (i := i + 1) (by rw [hi]; rfl), List.take_succ_cons, List.drop_succ_cons]
    rfl
theorem qrep_qt : ∀ l : List UInt8, qrep l = qt l
  | [] => rfl
  | c :: r => by
    by_cases h : c = 34
    · subst h
      have hi : Lib.index (34 :: r) [34] = ((0 : Nat) : Int) := by rw [Lib.index, if_pos (by simp [List.isPrefixOf])]; rfl
      rw [qrep_hit hi, List.take_zero, Nat.zero_add, List.drop_one, List.tail_cons, qrep_qt r]
      rfl
    · have h' : [34].isPrefixOf (c :: r) = false := by
        rw [Bool.eq_false_iff]
        intro e
        simp [List.isPrefixOf] at e
        exact h e.symm
      rw [qrep_cons h', qrep_qt r]
      show c :: qt r = (if c = 34 then [34, 34] else [c]) ++ qt r
      rw [if_neg h]; rfl
theorem replace_qt (l : List UInt8) : Lib.replaceAll l [34] [34, 34] = qt l := by
  rw [← qrep_qt]
  unfold Lib.replaceAll Lib.replace qrep Lib.replaceNum
  rw [if_neg (by decide), if_pos (.inl (by decide))]
end Go.Proofs.YtdlomdbmmhjppaaGreatDoor.T9
namespace Go.Proofs.YtdlomdbmmhjppaaGreatDoor.T9
open Go.RowKit Go.Sort
set_option linter.unusedVariables false

/-- The texts stand in the text one behind the other. -/
def Occ : List UInt8 → List (List UInt8) → Prop
  | _, [] => True
  | s, k :: r => ∃ pre post, s = pre ++ (k ++ post) ∧ Occ post r
theorem Occ.more : ∀ {l : List (List UInt8)} {s : List UInt8} (x : List UInt8), Occ s l → Occ (x ++ s) l
  | [], s, x, _ => trivial
  | k :: r, s, x, ⟨pre, post, e, h⟩ => ⟨x ++ pre, post, by rw [e, List.append_assoc], h⟩
theorem Occ.behind : ∀ {l : List (List UInt8)} {s : List UInt8} (x : List UInt8), Occ s l → Occ (s ++ x) l
  | [], s, x, _ => trivial
  | k :: r, s, x, ⟨pre, post, e, h⟩ => ⟨pre, post ++ x, by rw [e]; simp only [List.append_assoc], h.behind x⟩
/-- One looks at a place: the text is there, or it is behind it. -/
theorem Occ.here {k s : List UInt8} {r : List (List UInt8)} (h : Occ s (k :: r)) : k.length ≤ s.length := by
  obtain ⟨pre, post, e, _⟩ := h
  rw [e]; simp only [List.length_append]; omega
theorem Occ.take {k s : List UInt8} {r : List (List UInt8)} (h : Occ s (k :: r)) (e : s.take k.length = k) : Occ (s.drop k.length) r := by
  obtain ⟨pre, post, e', h'⟩ := h
  have : s.drop k.length = (s.drop k.length).take pre.length ++ post := by
    have e2 : post = (s.drop k.length).drop pre.length := by
      rw [List.drop_drop, e']
      rw [← List.append_assoc]
      exact (List.drop_left' (by simp; omega)).symm
    conv => rhs; rw [e2]
    exact (List.take_append_drop _ _).symm
  rw [this]
  exact h'.more _
theorem Occ.on {k s : List UInt8} {r : List (List UInt8)} (h : Occ s (k :: r)) (e : s.take k.length ≠ k) : Occ (s.drop 1) (k :: r) := by
  obtain ⟨pre, post, e', h'⟩ := h
  cases pre with
  | nil => exact absurd (by rw [e']; simp) e
  | cons c p => exact ⟨p, post, by rw [e']; rfl, h'⟩
theorem fr_occ (n : Int) (p : List UInt8 × Int) : ∃ x y, fr n p = x ++ (p.1 ++ y) := by
  unfold fr
  split
  · exact ⟨[40], [41], by simp⟩
  · exact ⟨[], [], by simp⟩
theorem argF_occ : ∀ (l : List (List UInt8 × Int)) (f : Bool) (y : List UInt8), Occ (argF f l ++ y) (l.map (·.1))
  | [], f, y => trivial
  | a :: r, f, y => by
    rw [argF, List.map_cons]
    exact ⟨if f then [44] else [], argF true r ++ y, by simp, argF_occ r true y⟩
theorem node_occ (nd : Nd) (ks : List Ex) (h : toldB nd ks.length = true) : Occ (txE (.mk nd ks)) (ks.map txE) := by
  rw [txE_mk]
  unfold nodeT
  split
  · rename_i hk
    have e : ks.length = 1 := by
      have := h; unfold toldB okOf at this; simp only [hk] at this; simp at this; exact this.1.1.2.2
    obtain ⟨k, rfl⟩ := List.length_eq_one_iff.1 e
    obtain ⟨x, y, hxy⟩ := fr_occ (lv nd) (txE k, lv k.nd)
    simp only [List.map_cons, List.map_nil, List.getD_cons_zero]
    rw [hxy]
    exact ⟨aheadL nd.op ++ x, y ++ behindL nd.op, by simp, trivial⟩
  · split
    · rename_i hk7 hk
      have e : ks.length = 2 := by
        have := h; unfold toldB okOf at this; simp only [hk] at this; simp at this; exact this.1.1.2.2
      obtain ⟨k, j, rfl⟩ := len_two e
      obtain ⟨x, y, hxy⟩ := fr_occ (lv nd) (txE k, lv k.nd)
      obtain ⟨x', y', hxy'⟩ := fr_occ (lv nd + 1) (txE j, lv j.nd)
      simp only [List.map_cons, List.map_nil, List.getD_cons_zero, List.getD_cons_succ]
      rw [hxy, hxy']
      exact ⟨x, y ++ sgB nd.op ++ (x' ++ (txE j ++ y')), by simp, y ++ sgB nd.op ++ x', y', by simp, trivial⟩
    · split
      · have := argF_occ (ks.map fun k => (txE k, lv k.nd)) false [41]
        rw [List.map_map] at this
        have := this.more (nameL nd.fn ++ [40])
        rw [List.append_assoc _ _ [41]]
        exact this
      · rename_i h7 h8 h9
        have e : ks.length = 0 := by
          have := h; unfold toldB leftOf at this; simp only [h7, h8, h9] at this; simp at this; simp [this.1.2]
        rw [List.eq_nil_of_length_eq_zero e]
        trivial
/-- A kid of a tree that may be may be. -/
theorem may_kid {nd : Nd} {ks : List Ex} {k : Ex} (h : mayR (.mk nd ks) = 0) (hk : k ∈ ks) : mayR k = 0 := by
  have hf : fitB (.mk nd ks) = true := by
    cases q : fitB (.mk nd ks)
    · rw [mayR_no q] at h; cases h
    · rfl
  have ha : allE (.mk nd ks) = true := by
    cases q : allE (.mk nd ks)
    · rw [mayR_two hf q] at h; cases h
    · rfl
  rw [allE, Bool.and_eq_true] at ha
  exact mayR_ok (fit_kid hf hk) (all_kid ha.2 hk)
theorem num_kid : ∀ {ks : List Ex} {k : Ex}, NumL ks → k ∈ ks → NumE k
  | [], k, _, h => by cases h
  | x :: r, k, ha, h => by
    rw [NumL] at ha
    rcases List.mem_cons.1 h with rfl | h
    · exact ha.1
    · exact num_kid ha.2 h
theorem may_all {t : Ex} (h : mayR t = 0) : fitB t = true ∧ allE t = true := by
  cases q : fitB t
  · rw [mayR_no q] at h; cases h
  · cases q2 : allE t
    · rw [mayR_two q q2] at h; cases h
    · exact ⟨rfl, rfl⟩
theorem txE_short {t : Ex} (h : mayR t = 0) (hN : NumE t) : (txE t).length ≤ 65535 := by
  obtain ⟨hf, ha⟩ := may_all h
  have := txE_len t ha hN
  have := of_decide_eq_true hf
  omega
end Go.Proofs.YtdlomdbmmhjppaaGreatDoor.T9
