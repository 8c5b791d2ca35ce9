/- package print's small functions: what they answer. The contracts of (*strings.Builder).WriteByte and WriteString, proved once in the kit's library, at this program's own numbers (by one table of numbers for both). print's builder: what is in memory while a text is laid into it. print.leafText: the text of a node that has no kids by its kind. print.textOf's closure, of a leaf. print.textOf's closure, in brackets. -/
import Derived.Test.YtbpogngnhhkjbaaDoorTxJ
import Derived.Test.YtbpogngnhhkjbaaDoorMyJ
import Derived.Test.YtbpogngnhhkjbaaDoorRows
import Derived.Shelf.Strings.BuilderK
import Derived.WalkKit
namespace Go.Proofs.YtbpogngnhhkjbaaDoor.T9
open Go.RowKit Go.Sort
set_option linter.unusedVariables false

abbrev ba (l : List UInt8) : ByteArray := ⟨l.toArray⟩
theorem ba_list (l : List UInt8) : (ba l).data.toList = l := by simp
theorem ba_size (l : List UInt8) : (ba l).size = l.length := by rw [Lib.size_eq, ba_list]
theorem ba_of (s : ByteArray) : ba s.data.toList = s := rfl
theorem ba_app (a b : List UInt8) : ba a ++ ba b = ba (a ++ b) := by
  apply ByteArray.ext
  apply Array.ext'
  simp [ByteArray.data_append]
/-- Print's table of operations. -/
def opTab : List (List UInt8 × Int) := [([], 0), ([94], 5), ([42], 4), ([47], 4), ([43], 3), ([45], 3), ([38], 2), ([61], 1), ([60, 62], 1), ([60], 1), ([60, 61], 1), ([62], 1), ([62, 61], 1)]
def opC : Array Value := (opTab.flatMap fun p => [Value.string (ba p.1), .int .i64 p.2]).toArray
/-- What the world must hold. -/
structure Lay11 (w : World) : Prop where
  tab : Tab w
  mx : ∃ m, w.cell? ⟨2, 0, none⟩ = some (.int .i64 m)
  op : ∃ t fr, w.heap[0]? = some (.cells opC t fr)
theorem keep1 {W w1 : World} {b o : Nat} {v : Value} (hb : Below W.heap.size W w1) (h : W.cell? ⟨b, o, none⟩ = some v) : w1.cell? ⟨b, o, none⟩ = some v := by
  rw [hb.cell (p := ⟨b, o, none⟩) (block_lt_of_cell h)]; exact h
theorem Lay11.keep {W w1 : World} (h : Lay11 W) (hb : Below W.heap.size W w1) : Lay11 w1 :=
  ⟨tab_below h.tab hb, by obtain ⟨m, e⟩ := h.mx; exact ⟨m, keep1 hb e⟩, by obtain ⟨t, fr, e⟩ := h.op; exact ⟨t, fr, (hb.block _ (Array.getElem?_eq_some_iff.1 e).1).trans e⟩⟩
theorem Lay11.alloc {W : World} (h : Lay11 W) (o : Obj) : Lay11 (W.alloc o) := h.keep ((Below.refl _ _).alloc (Nat.le_refl _) _)
theorem Lay11.at {w : World} (h : Lay11 w) (j : Nat) : w.cell? ⟨0, j, none⟩ = opC[j]? := by
  obtain ⟨t, fr, e⟩ := h.op
  simp [World.cell?, e]
theorem Lay11.lev {w : World} (h : Lay11 w) {op : Int} (ho : 1 ≤ op ∧ op ≤ 12) : w.cell? ⟨0, op.toNat * 2 + 1, none⟩ = some (.int .i64 (lvB op)) := by
  rw [h.at]
  rcases op_cases ho with rfl | rfl | rfl | rfl | rfl | rfl | rfl | rfl | rfl | rfl | rfl | rfl
  all_goals rfl
theorem Lay11.sgn {w : World} (h : Lay11 w) {op : Int} (ho : 1 ≤ op ∧ op ≤ 12) : w.cell? ⟨0, op.toNat * 2, none⟩ = some (.string (ba (sgB op))) := by
  rw [h.at]
  rcases op_cases ho with rfl | rfl | rfl | rfl | rfl | rfl | rfl | rfl | rfl | rfl | rfl | rfl
  all_goals rfl
set_option maxHeartbeats 1000000 in
set_option maxRecDepth 100000 in
theorem levelOf_any (n : Nd) (s : Value) (w : World) (hl : Lay11 w) (ho : n.kind = 8 → 1 ≤ n.op ∧ n.op ≤ 12) : Calls Tryd.prog 32 #[exV n s] w fun e w' => e = .returned (.int .i64 (lv n)) ∧ Below w.heap.size w w' := by
  have A := at14 n s
  have c0 := A.c0
  have c1 := A.c1
  clear A
  by_cases h8 : n.kind = 8
  · have hv : lv n = lvB n.op := by unfold lv; rw [if_pos h8]
    have HL := hide (hl.alloc (exO n s))
    have o1 := (ho h8).1
    have o2 := (ho h8).2
    have o3 : 0 ≤ n.op := by omega
    have o4 : n.op < 13 := by omega
    have HC := HL.out.lev (ho h8)
    rw [hv]
    clear hv hl ho
    go_enter Tryd.func32, Tryd.ntmps32
    go_wp2_with fail
    go_ret
    exact ⟨rfl, by go_grown⟩
  · by_cases h7 : n.kind = 7
    · by_cases h3 : n.op = 3
      · have hv : lv n = 7 := by unfold lv; rw [if_neg h8, if_pos h7, if_pos h3]
        rw [hv]
        clear hv hl ho
        go_enter Tryd.func32, Tryd.ntmps32
        go_wp2_with fail
        go_ret
        exact ⟨rfl, by go_grown⟩
      · have hv : lv n = 6 := by unfold lv; rw [if_neg h8, if_pos h7, if_neg h3]
        rw [hv]
        clear hv hl ho
        go_enter Tryd.func32, Tryd.ntmps32
        go_wp2_with fail
        go_ret
        exact ⟨rfl, by go_grown⟩
    · have hv : lv n = 8 := by unfold lv; rw [if_neg h8, if_neg h7]
      rw [hv]
      clear hv hl ho
      go_enter Tryd.func32, Tryd.ntmps32
      go_wp2_with fail
      go_ret
      exact ⟨rfl, by go_grown⟩
theorem signsOf_any (op : Int) (w : World) : Calls Tryd.prog 34 #[.int .i64 op] w fun e w' => e = .returned (.tuple #[.string (ba (aheadL op)), .string (ba (behindL op))]) ∧ Below w.heap.size w w' := by
  by_cases h1 : op = 1
  · subst h1
    go_enter Tryd.func34, Tryd.ntmps34
    go_wp2_with fail
    go_ret2
    exact ⟨rfl, by go_grown⟩
  · by_cases h2 : op = 2
    · subst h2
      go_enter Tryd.func34, Tryd.ntmps34
      go_wp2_with fail
      go_ret2
      exact ⟨rfl, by go_grown⟩
    · have e1 : aheadL op = [] := by unfold aheadL; rw [if_neg h1, if_neg h2]
      have e2 : behindL op = [37] := by unfold behindL; rw [if_neg h1, if_neg h2]
      rw [e1, e2]
      clear e1 e2
      go_enter Tryd.func34, Tryd.ntmps34
      go_wp2_with fail
      go_ret2
      exact ⟨rfl, by go_grown⟩
theorem mistake_any (n : Int) (h : 1 ≤ n ∧ n ≤ 6) (w : World) : Calls Tryd.prog 56 #[.int .i64 n] w fun e w' => e = .returned (.string (ba (errL n))) ∧ Below w.heap.size w w' := by
  rcases (show n = 1 ∨ n = 2 ∨ n = 3 ∨ n = 4 ∨ n = 5 ∨ n = 6 by omega) with rfl | rfl | rfl | rfl | rfl | rfl
  all_goals
    go_enter Tryd.func56, Tryd.ntmps56
    go_wp2_with fail
    go_ret
    exact ⟨rfl, by go_grown⟩
set_option maxHeartbeats 1000000 in
theorem ptext_any (r : Rf) (w : World) (hl : Lay11 w) (hm : mayB r.row r.col = true) : Calls Tryd.prog 57 #[rfV r] w fun e w' => e = .returned (.string (ba (rfT r))) ∧ Below w.heap.size w w' := by
  obtain ⟨row, col, p, q⟩ := r
  have hm := of_decide_eq_true hm
  obtain ⟨x, rfl⟩ : ∃ x : Nat, row = x := ⟨row.toNat, by simp at hm; omega⟩
  obtain ⟨y, rfl⟩ : ∃ y : Nat, col = y := ⟨col.toNat, by simp at hm; omega⟩
  simp only at hm
  have HR := hide (refText_yes x y p q (w.alloc (.cells #[.int .i64 x, .int .i64 y, .bool p, .bool q] 28)) (by omega) (by omega) (hl.alloc _).tab)
  have HR0 := hide (refText_yes x y p q w (by omega) (by omega) hl.tab)
  have e : rfT ⟨x, y, p, q⟩ = (refB x y p q).data.toList := rfl
  rw [e, ba_of]
  generalize refB x y p q = s at *
  clear e hm hl
  go_enter Tryd.func57, Tryd.ntmps57
  go_wp2_with (first
    | (go_at_call 65; refine (by with_reducible exact HR.out : Calls _ _ _ _ _).mono ?_; rintro e w1 ⟨rfl, hb⟩; have b1 := hide (next (step (Below.refl w.heap.size w) _) hb))
    | (go_at_call 65; refine (by with_reducible exact HR0.out : Calls _ _ _ _ _).mono ?_; rintro e w1 ⟨rfl, hb⟩; have b1 := hide hb))
  go_ret
  exact ⟨rfl, b1.out⟩
set_option maxHeartbeats 400000 in
theorem ptxt_any (n : Int) (w : World) (h0 : -9223372036854775808 ≤ n) (h1 : n ≤ 9223372036854775807) (ht : Tab w) :
    Calls Tryd.prog 54 #[.int .i64 n] w fun e w' => e = .returned (.string ⟨(Lib.itoa n).toArray⟩) ∧ Below w.heap.size w w' := by
  have HT := hide (Tryd.strconv_FormatInt_10 n h0 h1 w ht)
  clear ht
  go_enter Tryd.func54, Tryd.ntmps54
  go_wp2_with (go_at_call 63; refine HT.out.mono ?_; rintro e w' ⟨rfl, k, os, rfl⟩)
  go_ret
  exact ⟨rfl, below_grows w k os⟩
theorem name_row {f : Int} (h : 1 ≤ f ∧ f ≤ 76) : ∃ k : Nat, ∃ hk : k < 76, f = (k : Int) + 1 ∧ nameL f = (tab[k]'(by rw [tab_len]; exact hk)).1.data.toList := by
  refine ⟨(f - 1).toNat, by omega, by omega, ?_⟩
  unfold nameL rowOf
  rw [if_pos h, List.getElem?_eq_getElem (by rw [tab_len]; omega)]
set_option maxHeartbeats 1000000 in
theorem nameOf_any (f : Int) (h : 1 ≤ f ∧ f ≤ 76) (w : World) : Calls Tryd.prog 36 #[.int .i64 f] w fun e w' => e = .returned (.string (ba (nameL f))) ∧ Below w.heap.size w w' := by
  obtain ⟨k, hk, rfl, hn⟩ := name_row h
  have HI := hide (info_yes k hk)
  rw [hn, ba_of]
  generalize tab[k] = r at *
  obtain ⟨n, mn, mx⟩ := r
  clear hn h
  go_enter Tryd.func36, Tryd.ntmps36
  go_wp2_with (first
    | (go_at_call 53; refine (HI.out _).mono ?_; rintro e w1 ⟨rfl, hb⟩; have b1 := hide hb))
  go_ret
  exact ⟨rfl, step b1.out _⟩
end Go.Proofs.YtbpogngnhhkjbaaDoor.T9
namespace Go.Proofs.YtbpogngnhhkjbaaDoor.T9
open Go.RowKit
set_option linter.unusedVariables false

def bRen : Go.Shelf.Ren := ⟨fun | 166 => 35 | 167 => 33 | 240 => 52 | 276 => 60 | n => n, fun | 0 => 0 | 3 => 3 | 4 => 4 | 5 => 5 | 9 => 9 | 20 => 20 | 37 => 37 | 70 => 55 | 72 => 57 | 75 => 60 | 80 => 69 | 127 => 86 | 164 => 88 | n => n, fun | n => n⟩
theorem lays167b : Go.Proofs.Lays.n167 Tryd.prog bRen := {
  mixed := by kernel_rfl
  f167 := Tryd.func33.trans (congrArg some (by kernel_rfl))
  f240 := Tryd.func52.trans (congrArg some (by kernel_rfl))
  f276 := Tryd.func60.trans (congrArg some (by kernel_rfl))
  t0 := Tryd.underlying0
  a0 := Tryd.isAgg0
  z0 := Tryd.sizeOf0
  v0 := Tryd.zeroValue0
  t4 := Tryd.underlying4
  a4 := Tryd.isAgg4
  z4 := Tryd.sizeOf4
  v4 := Tryd.zeroValue4
  t5 := Tryd.underlying5
  a5 := Tryd.isAgg5
  z5 := Tryd.sizeOf5
  v5 := Tryd.zeroValue5
  t9 := Tryd.underlying9
  a9 := Tryd.isAgg9
  z9 := Tryd.sizeOf9
  v9 := Tryd.zeroValue9
  t20 := Tryd.underlying20
  a20 := Tryd.isAgg20
  z20 := Tryd.sizeOf20
  v20 := Tryd.zeroValue20
  t37 := Tryd.underlying37
  a37 := Tryd.isAgg37
  z37 := Tryd.sizeOf37
  v37 := Tryd.zeroValue37
  t70 := Tryd.underlying55
  a70 := Tryd.isAgg55
  z70 := Tryd.sizeOf55
  v70 := Tryd.zeroValue55
  t72 := Tryd.underlying57
  a72 := Tryd.isAgg57
  z72 := Tryd.sizeOf57
  v72 := Tryd.zeroValue57
  t75 := Tryd.underlying60
  a75 := Tryd.isAgg60
  z75 := Tryd.sizeOf60
  v75 := Tryd.zeroValue60
  t164 := Tryd.underlying88
  a164 := Tryd.isAgg88
  z164 := Tryd.sizeOf88
  v164 := Tryd.zeroValue88 }
theorem lays166b : Go.Proofs.Lays.n166 Tryd.prog bRen := {
  mixed := by kernel_rfl
  f166 := Tryd.func35.trans (congrArg some (by kernel_rfl))
  f240 := Tryd.func52.trans (congrArg some (by kernel_rfl))
  f276 := Tryd.func60.trans (congrArg some (by kernel_rfl))
  t0 := Tryd.underlying0
  a0 := Tryd.isAgg0
  z0 := Tryd.sizeOf0
  v0 := Tryd.zeroValue0
  t3 := Tryd.underlying3
  a3 := Tryd.isAgg3
  z3 := Tryd.sizeOf3
  v3 := Tryd.zeroValue3
  t4 := Tryd.underlying4
  a4 := Tryd.isAgg4
  z4 := Tryd.sizeOf4
  v4 := Tryd.zeroValue4
  t9 := Tryd.underlying9
  a9 := Tryd.isAgg9
  z9 := Tryd.sizeOf9
  v9 := Tryd.zeroValue9
  t20 := Tryd.underlying20
  a20 := Tryd.isAgg20
  z20 := Tryd.sizeOf20
  v20 := Tryd.zeroValue20
  t37 := Tryd.underlying37
  a37 := Tryd.isAgg37
  z37 := Tryd.sizeOf37
  v37 := Tryd.zeroValue37
  t70 := Tryd.underlying55
  a70 := Tryd.isAgg55
  z70 := Tryd.sizeOf55
  v70 := Tryd.zeroValue55
  t72 := Tryd.underlying57
  a72 := Tryd.isAgg57
  z72 := Tryd.sizeOf57
  v72 := Tryd.zeroValue57
  t75 := Tryd.underlying60
  a75 := Tryd.isAgg60
  z75 := Tryd.sizeOf60
  v75 := Tryd.zeroValue60
  t164 := Tryd.underlying88
  a164 := Tryd.isAgg88
  z164 := Tryd.sizeOf88
  v164 := Tryd.zeroValue88 }
theorem extraB : Builder.Extra Tryd.prog bRen := {
  sizeBuilder := by kernel_rfl
  liesBuilder := by kernel_rfl
  t5 := Tryd.underlying5
  a5 := Tryd.isAgg5
  z5 := Tryd.sizeOf5
  v5 := Tryd.zeroValue5
  infoByte := by kernel_rfl
  cellsByte := by kernel_rfl
  sizeByte := by kernel_rfl
  neB5 := by decide }
theorem writeByte_k (B b : Nat) (bs : List Value) (c : Int) (w : World) (h : Lib.IsBuilderF 57 5 B b bs w) (hlen : bs.length + 1 ≤ 140737488355328) (hBw : B ≤ w.heap.size) :
    Calls Tryd.prog 33 #[.pointer (some ⟨b, 0, none⟩), .int .u8 c] w fun e w' => e = .returned .nilIface ∧ (Lib.BuilderAtF 57 5 B b (.pointer (some ⟨b, 0, none⟩)) (bs ++ [.int .u8 c]) w' ∧ Below B w w' ∧ Lib.OthersKept 5 (some b) w w') :=
  Any.Builder_WriteByte_k lays167b extraB B b bs c w h hlen hBw
theorem writeString_k (B b : Nat) (bs : List Value) (s : ByteArray) (w : World) (h : Lib.IsBuilderF 57 5 B b bs w) (hlen : bs.length + s.size ≤ 140737488355328) (hBw : B ≤ w.heap.size) :
    Calls Tryd.prog 35 #[.pointer (some ⟨b, 0, none⟩), .string s] w fun e w' => e = .returned (.tuple #[.int .i64 s.size, .nilIface]) ∧ (Lib.BuilderAtF 57 5 B b (.pointer (some ⟨b, 0, none⟩)) (bs ++ Lib.strCells s) w' ∧ Below B w w' ∧ Lib.OthersKept 5 (some b) w w') :=
  Any.Builder_WriteString_k lays166b extraB B b bs s w h hlen hBw
end Go.Proofs.YtbpogngnhhkjbaaDoor.T9
namespace Go.Proofs.YtbpogngnhhkjbaaDoor.T9
open Go.RowKit Go.Sort
set_option linter.unusedVariables false

abbrev tB : TypeId := 57
abbrev tU : TypeId := 5
theorem atF_keep {B b : Nat} {p : Value} {bs : List Value} {w w' : World} (h : Lib.BuilderAtF tB tU B b p bs w) (hb : Below w.heap.size w w') : Lib.BuilderAtF tB tU B b p bs w' := by
  obtain ⟨h0, v, hbk, hown, hne⟩ := h
  have hlt : b < w.heap.size := (Array.getElem?_eq_some_iff.1 hbk).1
  refine ⟨h0, v, (hb.block b hlt).trans hbk, ⟨hown.1, ?_⟩, hne⟩
  rcases hown.2 with hn | ⟨g, cap, cur, fz, hv, hbg, hg, rest⟩
  · exact .inl hn
  · exact .inr ⟨g, cap, cur, fz, hv, hbg, (hb.block g (Array.getElem?_eq_some_iff.1 hg).1).trans hg, rest⟩
theorem isF_keep {B b : Nat} {bs : List Value} {w w' : World} (h : Lib.IsBuilderF tB tU B b bs w) (hb : Below w.heap.size w w') : Lib.IsBuilderF tB tU B b bs w' :=
  h.elim (fun x => .inl (atF_keep x hb)) (fun x => .inr (atF_keep x hb))
theorem isF_lt {B b : Nat} {bs : List Value} {w : World} (h : Lib.IsBuilderF tB tU B b bs w) : B ≤ b ∧ b < w.heap.size := by
  rcases h with ⟨h0, v, hbk, _⟩ | ⟨h0, v, hbk, _⟩
  · exact ⟨h0, (Array.getElem?_eq_some_iff.1 hbk).1⟩
  · exact ⟨h0, (Array.getElem?_eq_some_iff.1 hbk).1⟩
/-- The closure that lays. -/
abbrev layV (b L : Nat) : Value := .func (.func 31) #[] #[.pointer (some ⟨b, 0, none⟩), .pointer (some ⟨L, 0, none⟩)]
abbrev tL : TypeId := 58
/-- The builder holds a text, the variable the closure; what was there ahead of both is as it was. -/
structure Lng (w0 : World) (b L : Nat) (acc : List UInt8) (w : World) : Prop where
  low : Below w0.heap.size w0 w
  bld : Lib.IsBuilderF tB tU w0.heap.size b (Lib.byteCells acc) w
  var : Blk w L #[layV b L] tL
  ne : L ≠ b
abbrev OK11 (b : Nat) (w w' : World) : Prop := Lib.OthersKept tU (some b) w w'
theorem OK11.of_below {b : Nat} {w w' : World} (h : Below w.heap.size w w') : OK11 b w w' := fun k o hk _ _ => (h.block k (Array.getElem?_eq_some_iff.1 hk).1).trans hk
theorem OK11.blk {b : Nat} {w w' : World} (h : OK11 b w w') {B : Nat} {vs : Array Value} {t : TypeId} (hb : Blk w B vs t) (hne : B ≠ b) (ht : t ≠ tU) : Blk w' B vs t :=
  h B _ hb (fun e => hne (Option.some.inj e)) (fun c fz e => ht (by injection e))
theorem Lng.keep {w0 w w' : World} {b L : Nat} {acc : List UInt8} (h : Lng w0 b L acc w) (hb : Below w.heap.size w w') : Lng w0 b L acc w' := ⟨next h.low hb, isF_keep h.bld hb, h.var.keep hb, h.ne⟩
theorem Lng.alloc {w0 w : World} {b L : Nat} {acc : List UInt8} (h : Lng w0 b L acc w) (o : Obj) : Lng w0 b L acc (w.alloc o) := h.keep ((Below.refl _ _).alloc (Nat.le_refl _) _)
theorem Lng.drew {w0 w : World} {b L : Nat} {acc : List UInt8} (h : Lng w0 b L acc w) : Lng w0 b L acc w.drew := ⟨h.low.drew, h.bld, h.var, h.ne⟩
theorem Lng.lt {w0 w : World} {b L : Nat} {acc : List UInt8} (h : Lng w0 b L acc w) : b < w.heap.size := (isF_lt h.bld).2
theorem Lng.at {w0 w : World} {b L : Nat} {acc : List UInt8} (h : Lng w0 b L acc w) (o : Obj) : (w.alloc o).cell? ⟨L, 0, none⟩ = some (layV b L) := (h.var.alloc o).one
theorem tL_ne : tL ≠ tU := by decide
theorem tX_ne : (30 : TypeId) ≠ tU := by decide
theorem wb_any {w0 w : World} {b L : Nat} {acc : List UInt8} (h : Lng w0 b L acc w) (hl : acc.length < 70368744177664) (c : UInt8) :
    Calls Tryd.prog 33 #[.pointer (some ⟨b, 0, none⟩), .int .u8 c.toNat] w fun e w' => e = .returned .nilIface ∧ Lng w0 b L (acc ++ [c]) w' ∧ OK11 b w w' := by
  refine (writeByte_k w0.heap.size b (Lib.byteCells acc) c.toNat w h.bld (by rw [Lib.byteCells_length]; omega) h.low.size).mono ?_
  rintro e w' ⟨rfl, h1, h2, h3⟩
  exact ⟨rfl, ⟨h.low.trans h2, .inr (by rw [Lib.byteCells_append]; exact h1), OK11.blk h3 h.var h.ne tL_ne, h.ne⟩, h3⟩
theorem wb_40 {w0 w : World} {b L : Nat} {acc : List UInt8} (h : Lng w0 b L acc w) (hl : acc.length < 70368744177664) :
    Calls Tryd.prog 33 #[.pointer (some ⟨b, 0, none⟩), .int .u8 40] w fun e w' => e = .returned .nilIface ∧ Lng w0 b L (acc ++ [40]) w' ∧ OK11 b w w' := wb_any h hl 40
theorem wb_41 {w0 w : World} {b L : Nat} {acc : List UInt8} (h : Lng w0 b L acc w) (hl : acc.length < 70368744177664) :
    Calls Tryd.prog 33 #[.pointer (some ⟨b, 0, none⟩), .int .u8 41] w fun e w' => e = .returned .nilIface ∧ Lng w0 b L (acc ++ [41]) w' ∧ OK11 b w w' := wb_any h hl 41
theorem wb_44 {w0 w : World} {b L : Nat} {acc : List UInt8} (h : Lng w0 b L acc w) (hl : acc.length < 70368744177664) :
    Calls Tryd.prog 33 #[.pointer (some ⟨b, 0, none⟩), .int .u8 44] w fun e w' => e = .returned .nilIface ∧ Lng w0 b L (acc ++ [44]) w' ∧ OK11 b w w' := wb_any h hl 44
theorem ws_any {w0 w : World} {b L : Nat} {acc : List UInt8} (h : Lng w0 b L acc w) (s : List UInt8) (hl : acc.length + s.length < 70368744177664) :
    Calls Tryd.prog 35 #[.pointer (some ⟨b, 0, none⟩), .string (ba s)] w fun e w' => e = .returned (.tuple #[.int .i64 s.length, .nilIface]) ∧ Lng w0 b L (acc ++ s) w' ∧ OK11 b w w' := by
  refine (writeString_k w0.heap.size b (Lib.byteCells acc) (ba s) w h.bld (by rw [Lib.byteCells_length, ba_size]; omega) h.low.size).mono ?_
  rintro e w' ⟨rfl, h1, h2, h3⟩
  exact ⟨by rw [ba_size], ⟨h.low.trans h2, .inr (by rw [Lib.byteCells_append]; exact h1), OK11.blk h3 h.var h.ne tL_ne, h.ne⟩, h3⟩
/-- What the closure answers of a tree. -/
abbrev LayIs11 (w0 : World) (b L : Nat) (t : Ex) : Prop := ∀ (v : Value) (n : Int) (acc : List UInt8) (w : World), Tree w0 v t → Lng w0 b L acc w → acc.length + (frE n t).length < 70368744177664 →
  Calls Tryd.prog 31 #[v, .int .i64 n, .pointer (some ⟨b, 0, none⟩), .pointer (some ⟨L, 0, none⟩)] w fun e w' => e = .returned (.tuple #[]) ∧ Lng w0 b L (acc ++ frE n t) w' ∧ OK11 b w w'
/-- The same where no brackets are wanted. -/
abbrev CoreIs (w0 : World) (b L : Nat) (t : Ex) : Prop := ∀ (v : Value) (n : Int) (acc : List UInt8) (w : World), n ≤ lv t.nd → Tree w0 v t → Lng w0 b L acc w → acc.length + (txE t).length < 70368744177664 →
  Calls Tryd.prog 31 #[v, .int .i64 n, .pointer (some ⟨b, 0, none⟩), .pointer (some ⟨L, 0, none⟩)] w fun e w' => e = .returned (.tuple #[]) ∧ Lng w0 b L (acc ++ txE t) w' ∧ OK11 b w w'
end Go.Proofs.YtbpogngnhhkjbaaDoor.T9
namespace Go.Proofs.YtbpogngnhhkjbaaDoor.T9
open Go.RowKit Go.Sort
set_option linter.unusedVariables false

theorem addl_run {a b : List UInt8} (h : a.length + b.length ≤ 9223372036854775807) (w : World) : (Op.stringOp .add (ba a) (ba b)).run Tryd.prog w = .ok (.string (ba (a ++ b))) w := by
  rw [← ba_app]; exact add_run (by rw [ba_size, ba_size]; exact h) w
set_option maxHeartbeats 1000000 in
set_option maxRecDepth 100000 in
theorem leaf_1 (n : Nd) (s : Value) (w : World) (hl : Lay11 w) (hk : n.kind = 1) (h0 : 0 ≤ n.num) (h1 : n.num ≤ 9223372036854775807) : Calls Tryd.prog 37 #[exV n s] w fun e w' => e = .returned (.string (ba (leafL n))) ∧ Below w.heap.size w w' := by
  have e : leafL n = Lib.itoa n.num := by unfold leafL; rw [if_pos hk]
  rw [e]
  obtain ⟨a0, a1, a2, a3, a4, a5, a6, a7, a8, a9, a10, a11, a12, a13⟩ := at14 n s
  have HT := hide (ptxt_any n.num (w.alloc (exO n s)) (by omega) h1 (hl.alloc _).tab)
  clear hl e h0 h1
  go_enter Tryd.func37, Tryd.ntmps37
  go_wp2_with (first
    | (go_at_call 54; refine HT.out.mono ?_; rintro e w1 ⟨rfl, hb⟩; have b1 := hide (next (step (Below.refl w.heap.size w) _) hb)))
  go_ret
  exact ⟨rfl, b1.out⟩
set_option maxHeartbeats 1000000 in
set_option maxRecDepth 100000 in
theorem leaf_2 (n : Nd) (s : Value) (w : World) (hl : Lay11 w) (hk : n.kind = 2) (hz : n.text.size ≤ 16384) : Calls Tryd.prog 37 #[exV n s] w fun e w' => e = .returned (.string (ba (leafL n))) ∧ Below w.heap.size w w' := by
  have e : leafL n = 34 :: (qt n.text.data.toList ++ [34]) := by unfold leafL; rw [if_neg (by omega), if_pos hk]; rfl
  have hq := qt_len n.text.data.toList
  have hz' := Lib.size_eq n.text
  rw [e]
  obtain ⟨a0, a1, a2, a3, a4, a5, a6, a7, a8, a9, a10, a11, a12, a13⟩ := at14 n s
  obtain ⟨m, hm⟩ := (hl.alloc (exO n s)).mx
  have HR := hide (Tryd.strings_ReplaceAll n.text (ba [34]) (ba [34, 34]) m (w.alloc (exO n s)) (by omega) hm (by decide) (by
    have h1 := Lib.countB_le (ba [34]) (by decide) n.text.size n.text (Nat.le_refl _)
    have h3 : (ba [34, 34]).size = 2 := rfl
    rw [h3]; omega))
  rw [show (ba [34, 34]).data.toList = [34, 34] from rfl, show (ba [34]).data.toList = [34] from rfl, replace_qt] at HR
  generalize qt n.text.data.toList = U at *
  have s1 := fun w => addl_run (a := [34]) (b := U) (by simp; omega) w
  have s2 := fun w => addl_run (a := 34 :: U) (b := [34]) (by simp; omega) w
  clear hl e hm hq hz' hz
  go_enter Tryd.func37, Tryd.ntmps37
  go_wp2_with (first
    | (go_at_call 55; refine HR.out.mono ?_; rintro e w1 ⟨rfl, hb⟩; have b1 := hide (next (step (Below.refl w.heap.size w) _) hb)))
  go_ret
  exact ⟨rfl, b1.out⟩
set_option maxHeartbeats 1000000 in
set_option maxRecDepth 100000 in
theorem leaf_3 (n : Nd) (s : Value) (w : World) (hk : n.kind = 3) : Calls Tryd.prog 37 #[exV n s] w fun e w' => e = .returned (.string (ba (leafL n))) ∧ Below w.heap.size w w' := by
  have e : leafL n = if n.num = 1 then [84, 82, 85, 69] else [70, 65, 76, 83, 69] := by unfold leafL; rw [if_neg (by omega), if_neg (by omega), if_pos hk]
  rw [e]
  obtain ⟨a0, a1, a2, a3, a4, a5, a6, a7, a8, a9, a10, a11, a12, a13⟩ := at14 n s
  clear e
  by_cases h1 : n.num = 1
  · rw [if_pos h1]
    go_enter Tryd.func37, Tryd.ntmps37
    go_wp2_with fail
    go_ret
    exact ⟨rfl, by go_grown⟩
  · rw [if_neg h1]
    go_enter Tryd.func37, Tryd.ntmps37
    go_wp2_with fail
    go_ret
    exact ⟨rfl, by go_grown⟩
set_option maxHeartbeats 1000000 in
set_option maxRecDepth 100000 in
theorem leaf_4 (n : Nd) (s : Value) (w : World) (hk : n.kind = 4) (h : 1 ≤ n.num ∧ n.num ≤ 6) : Calls Tryd.prog 37 #[exV n s] w fun e w' => e = .returned (.string (ba (leafL n))) ∧ Below w.heap.size w w' := by
  have e : leafL n = errL n.num := by unfold leafL; rw [if_neg (by omega), if_neg (by omega), if_neg (by omega), if_pos hk]
  rw [e]
  obtain ⟨a0, a1, a2, a3, a4, a5, a6, a7, a8, a9, a10, a11, a12, a13⟩ := at14 n s
  have HM := hide (mistake_any n.num h (w.alloc (exO n s)))
  clear e h
  go_enter Tryd.func37, Tryd.ntmps37
  go_wp2_with (first
    | (go_at_call 56; refine HM.out.mono ?_; rintro e w1 ⟨rfl, hb⟩; have b1 := hide (next (step (Below.refl w.heap.size w) _) hb)))
  go_ret
  exact ⟨rfl, b1.out⟩
set_option maxHeartbeats 1000000 in
set_option maxRecDepth 100000 in
theorem leaf_5 (n : Nd) (s : Value) (w : World) (hl : Lay11 w) (hk : n.kind = 5) (hm : mayB n.ref.row n.ref.col = true) : Calls Tryd.prog 37 #[exV n s] w fun e w' => e = .returned (.string (ba (leafL n))) ∧ Below w.heap.size w w' := by
  have e : leafL n = rfT n.ref := by unfold leafL; rw [if_neg (by omega), if_neg (by omega), if_neg (by omega), if_neg (by omega), if_neg (by omega)]
  rw [e]
  obtain ⟨a0, a1, a2, a3, a4, a5, a6, a7, a8, a9, a10, a11, a12, a13⟩ := at14 n s
  have HR := hide (ptext_any n.ref (w.alloc (exO n s)) (hl.alloc _) hm)
  clear e hm hl
  go_enter Tryd.func37, Tryd.ntmps37
  go_wp2_with (first
    | (go_at_call 57; refine HR.out.mono ?_; rintro e w1 ⟨rfl, hb⟩; have b1 := hide (next (step (Below.refl w.heap.size w) _) hb)))
  go_ret
  exact ⟨rfl, b1.out⟩
set_option maxHeartbeats 1000000 in
set_option maxRecDepth 100000 in
theorem leaf_6 (n : Nd) (s : Value) (w : World) (hl : Lay11 w) (hk : n.kind = 6) (hm : mayB n.ref.row n.ref.col = true) (hm2 : mayB n.to.row n.to.col = true) : Calls Tryd.prog 37 #[exV n s] w fun e w' => e = .returned (.string (ba (leafL n))) ∧ Below w.heap.size w w' := by
  have e : leafL n = (rfT n.ref ++ [58]) ++ rfT n.to := by unfold leafL; rw [if_neg (by omega), if_neg (by omega), if_neg (by omega), if_neg (by omega), if_pos hk]
  rw [e]
  obtain ⟨a0, a1, a2, a3, a4, a5, a6, a7, a8, a9, a10, a11, a12, a13⟩ := at14 n s
  have z1 := rfT_len _ hm
  have z2 := rfT_len _ hm2
  have cR := fun d os => Calls.regrown_of (ptext_any n.ref (grow (redrawn (w.alloc (exO n s)) d) os) ((hl.alloc _).keep (below_regrown _ d os)) hm)
  have cT := fun d os => Calls.regrown_of (ptext_any n.to (grow (redrawn (w.alloc (exO n s)) d) os) ((hl.alloc _).keep (below_regrown _ d os)) hm2)
  have P0 := Blk.new w (exC n s) 30
  have k4 := cell_regrown ((P0.at' 4).trans a4)
  have k5 := cell_regrown ((P0.at' 5).trans a5)
  have k6 := cell_regrown ((P0.at' 6).trans a6)
  have k7 := cell_regrown ((P0.at' 7).trans a7)
  have k8 := cell_regrown ((P0.at' 8).trans a8)
  have k9 := cell_regrown ((P0.at' 9).trans a9)
  have k10 := cell_regrown ((P0.at' 10).trans a10)
  have k11 := cell_regrown ((P0.at' 11).trans a11)
  replace P0 := hide P0
  generalize rfT n.ref = U at *
  generalize rfT n.to = V at *
  have s1 := fun w => addl_run (a := U) (b := [58]) (by simp; omega) w
  have s2 := fun w => addl_run (a := U ++ [58]) (b := V) (by simp; omega) w
  clear e hm hm2 hl z1 z2
  go_enter Tryd.func37, Tryd.ntmps37
  go_wp2_with fail
  refine wp_region_quiet_below (by kernel_rfl) (by kernel_rfl) ?_
  repeat (go_big_quiet_step (first | (with_reducible exact cR _ _) | (with_reducible exact cT _ _)))
  refine wpQuiet_nil ?_
  intro _ hw'
  obtain ⟨⟨dq, osq⟩, hw''⟩ := hw'
  subst hw''
  go_wp2_with fail
  go_ret
  refine ⟨?_, next (step (Below.refl w.heap.size w) _) (below_regrown _ dq osq)⟩
  first
    | rfl
    | (simp [List.append_assoc]; done)
    | trace_state
theorem leaf_any (n : Nd) (len : Nat) (s : Value) (w : World) (hl : Lay11 w) (h : toldB n len = true) (h7 : n.kind ≠ 7) (h8 : n.kind ≠ 8) (h9 : n.kind ≠ 9) (hi : n.num ≤ 9223372036854775807) (hz : n.kind = 2 → n.text.size ≤ 16384) :
    Calls Tryd.prog 37 #[exV n s] w fun e w' => e = .returned (.string (ba (leafL n))) ∧ Below w.heap.size w w' := by
  unfold toldB at h
  rw [Bool.and_eq_true, Bool.and_eq_true] at h
  have ho := h.1.1
  unfold okOf at ho
  by_cases k1 : n.kind = 1
  · rw [if_pos k1] at ho; exact leaf_1 n s w hl k1 (of_decide_eq_true ho) hi
  rw [if_neg k1] at ho
  by_cases k2 : n.kind = 2
  · exact leaf_2 n s w hl k2 (hz k2)
  rw [if_neg k2] at ho
  by_cases k3 : n.kind = 3
  · exact leaf_3 n s w k3
  rw [if_neg k3] at ho
  by_cases k4 : n.kind = 4
  · rw [if_pos k4] at ho; exact leaf_4 n s w k4 (of_decide_eq_true ho)
  rw [if_neg k4] at ho
  by_cases k5 : n.kind = 5
  · rw [if_pos k5] at ho; exact leaf_5 n s w hl k5 ho
  rw [if_neg k5] at ho
  by_cases k6 : n.kind = 6
  · rw [if_pos k6, Bool.and_eq_true] at ho; exact leaf_6 n s w hl k6 ho.1 ho.2
  rw [if_neg k6, if_neg h7, if_neg h8, if_neg h9] at ho
  cases ho
end Go.Proofs.YtbpogngnhhkjbaaDoor.T9
namespace Go.Proofs.YtbpogngnhhkjbaaDoor.T9
open Go.RowKit Go.Sort
set_option linter.unusedVariables false

theorem frE_core {n : Int} {t : Ex} (h : n ≤ lv t.nd) : frE n t = txE t := by
  unfold frE fr
  rw [if_neg (by simp only; omega)]
set_option maxHeartbeats 2000000 in
set_option maxRecDepth 100000 in
theorem core_leaf (w0 : World) (hl : Lay11 w0) (b L : Nat) (nd : Nd) (ks : List Ex) (h : toldB nd ks.length = true) (h7 : ¬ nd.kind = 7) (h8 : ¬ nd.kind = 8) (h9 : ¬ nd.kind = 9) (hi : nd.num ≤ 9223372036854775807) (hz : nd.kind = 2 → nd.text.size ≤ 16384) : CoreIs w0 b L (.mk nd ks) := by
  intro v n acc w hn ht hL hlen
  obtain ⟨a, len, cap, rfl, _, _, _, _⟩ := ht.un
  have e : txE (.mk nd ks) = leafL nd := by rw [txE_mk]; unfold nodeT; rw [if_neg h7, if_neg h8, if_neg h9]
  rw [e] at hlen ⊢
  have P0 := hide (Blk.new w (exC nd (.slice a len cap)) 30)
  have L0 := hide (hL.alloc (exO nd (.slice a len cap)))
  have HV := hide (levelOf_any nd (.slice a len cap) (w.alloc (exO nd (.slice a len cap))) (hl.keep L0.out.low) (fun e => absurd e h8))
  have HT := hide (fun w1 (hb : Below w0.heap.size w0 w1) => leaf_any nd ks.length (.slice a len cap) w1 (hl.keep hb) h h7 h8 h9 hi hz)
  have c0 := (at14 nd (.slice a len cap)).c0
  have hn' : ¬ lv nd < n := by have : n ≤ lv nd := hn; omega
  have K0 := hide (OK11.of_below (b := b) (step (Below.refl w.heap.size w) (exO nd (.slice a len cap))))
  replace hlen := hide hlen
  generalize lv nd = ℓ at *
  generalize leafL nd = U at *
  clear ht hL e h hi hz hn
  go_enter Tryd.func31, Tryd.ntmps31
  go_wp2_with (first
    | (refine wpList_load_blk rfl 30 _ rfl _ rfl _ (by with_reducible exact P0.out) _ Tryd.underlying30 rfl (exC_info _ _) ?_)
    | (go_at_call 32; refine HV.out.mono ?_; rintro e w1 ⟨rfl, hb⟩; have P1 := hide (P0.out.keep hb); have L1 := hide (L0.out.keep hb); have K1 := hide (K0.out.trans (OK11.of_below hb)); have d0 := (P1.out.at' 0).trans c0; clear hb)
    | (refine wpList_load_blk rfl 30 _ rfl _ rfl _ (by with_reducible exact P1.out) _ Tryd.underlying30 rfl (exC_info _ _) ?_)
    | (go_at_call 37; refine (HT.out _ L1.out.low).mono ?_; rintro e w2 ⟨rfl, hb⟩; have L2 := hide (L1.out.keep hb); have K2 := hide (K1.out.trans (OK11.of_below hb)); clear hb)
    | (go_at_call 35; refine (ws_any L2.out U hlen.out).mono ?_; rintro e w3 ⟨rfl, h1, h2⟩; have L3 := hide h1; have K3 := hide (K2.out.trans h2); clear h1 h2))
  go_end0
  exact ⟨rfl, L3.out, K3.out⟩
end Go.Proofs.YtbpogngnhhkjbaaDoor.T9
namespace Go.Proofs.YtbpogngnhhkjbaaDoor.T9
open Go.RowKit Go.Sort
set_option linter.unusedVariables false

set_option maxHeartbeats 2000000 in
set_option maxRecDepth 100000 in
/-- In brackets. -/
theorem lay_br (w0 : World) (hl : Lay11 w0) (b L : Nat) (t : Ex) (ho : t.nd.kind = 8 → 1 ≤ t.nd.op ∧ t.nd.op ≤ 12) (hc : CoreIs w0 b L t) : LayIs11 w0 b L t := by
  intro v n acc w ht hL hlen
  by_cases hn : n ≤ lv t.nd
  · rw [frE_core hn] at hlen ⊢
    exact hc v n acc w hn ht hL hlen
  obtain ⟨nd, ks⟩ := t
  obtain ⟨a, len, cap, rfl, _, _, _, _⟩ := ht.un
  have e : frE n (.mk nd ks) = [40] ++ txE (.mk nd ks) ++ [41] := by
    unfold frE fr
    rw [if_pos (by show lv nd < n; have : ¬ n ≤ lv nd := hn; omega)]
  rw [e] at hlen ⊢
  simp only [List.length_append, List.length_cons, List.length_nil] at hlen
  have P0 := hide (Blk.new w (exC nd (.slice a len cap)) 30)
  have L0 := hide (hL.alloc (exO nd (.slice a len cap)))
  have HV := hide (levelOf_any nd (.slice a len cap) (w.alloc (exO nd (.slice a len cap))) (hl.keep L0.out.low) ho)
  have HC := hide (fun acc' w' (h : Lng w0 b L acc' w') (hz : acc'.length + (txE (.mk nd ks)).length < 70368744177664) => hc (exV nd (.slice a len cap)) 1 acc' w' (lv_pos nd) ht h hz)
  have hn' : lv nd < n := by have : ¬ n ≤ lv nd := hn; omega
  have K0 := hide (OK11.of_below (b := b) (step (Below.refl w.heap.size w) (exO nd (.slice a len cap))))
  have hb0 : Hid (w.heap.size ≠ b) := hide (by have := hL.lt; omega)
  replace hlen := hide hlen
  generalize lv nd = ℓ at *
  generalize txE (.mk nd ks) = U at *
  clear ht hL e hn ho hc
  have V0 := (L0.out.var).one
  go_enter Tryd.func31, Tryd.ntmps31
  go_wp2_with (first
    | (refine wpList_load_blk rfl 30 _ rfl _ rfl _ (by with_reducible exact P0.out) _ Tryd.underlying30 rfl (exC_info _ _) ?_)
    | (go_at_call 32; refine HV.out.mono ?_; rintro e w1 ⟨rfl, hb⟩; have P1 := hide (P0.out.keep hb); have L1 := hide (L0.out.keep hb); have K1 := hide (K0.out.trans (OK11.of_below hb)); clear hb)
    | (go_at_call 33; refine (wb_41 L3.out (by simp only [List.length_append, List.length_cons, List.length_nil]; have := hlen.out; omega)).mono ?_; rintro e w4 ⟨rfl, h1, h2⟩; have L4 := hide h1; have K4 := hide (K3.out.trans h2); clear h1 h2)
    | (go_at_call 33; refine (wb_40 L1.out (by have := hlen.out; omega)).mono ?_; rintro e w2 ⟨rfl, h1, h2⟩; have L2 := hide h1; have P2 := hide (OK11.blk h2 P1.out hb0.out tX_ne); have K2 := hide (K1.out.trans h2); have V2 := L2.out.var.one; clear h1 h2)
    | (refine wpList_load_blk rfl 30 _ rfl _ rfl _ (by with_reducible exact P2.out) _ Tryd.underlying30 rfl (exC_info _ _) ?_)
    | (go_at_call 31; refine (HC.out _ _ L2.out (by rw [List.length_append]; have := hlen.out; simp only [List.length_cons, List.length_nil]; omega)).mono ?_; rintro e w3 ⟨rfl, h1, h2⟩; have L3 := hide h1; have K3 := hide (K2.out.trans h2); clear h1 h2))
  refine bodyPost_ret (v := .tuple #[]) (by simp [results, Tryd.results31, go_sem]; try rfl) rfl ?_
  exact ⟨rfl, by have := L4.out; simpa using this, K4.out⟩
end Go.Proofs.YtbpogngnhhkjbaaDoor.T9
