/- Law 10's Book.Take: the lists of trees of one's own are taken, each written over by its number. Proved of the Go text. -/
import Derived.Test.YtiajoppbgebnpaaBoJ
import Derived.Test.YtiajoppbgebnpaaQTail
import Derived.Test.YtiajoppbgebnpaaMn12
import Derived.Lib.QuietBelow
import Derived.Deep.RegionLaw
import Derived.Deep.CutRange
namespace Go.Proofs.Ytiajoppbgebnpaa
open Go.RowKit Go.Sort
set_option linter.unusedVariables false

section
variable {ops : Array Oper} {rest : List Oper} {o : Oper} {a : Act} {w : World} {Q : Exit → Act → World → Prop} {g k : Nat} {q op : Int}
theorem wpList_putM (hgd : o.guard = none) (y z : Operand) (ho : o.op = .store 37 y z) (hy : a.eval y = .pointer (some ⟨g, k * 14, none⟩)) (hz : a.eval z = .agg #[.int .i64 q, .int .i64 op, .int .i64 0, .string { data := #[] }, .int .i64 0, .int .i64 0, .bool false, .bool false, .int .i64 0, .int .i64 0, .bool false, .bool false, .int .i64 0, .slice none 0 0]) (ht : w.there g (k * 14) 14)
    (h : wpList Try.prog ops Q rest (a.put o.dst undef) (putM w g k q op)) : wpList Try.prog ops Q (o :: rest) a w :=
  wpList_store_mid hgd 37 y z ho g (k * 14) (mkC q op) hy hz ht (exC_info _ _) (exC_one _ _ _ _) h
end
/-- Where the second loop stands: the first i lists are looked at, zs of them taken. -/
structure TkQ (w1 wr : World) (B bk : Nat) (uL uN vL vN : Value) (s : Nat) (rl nl tk xs zs : List Lst) (vl : Value) (B1 i : Nat) : Prop where
  st : BookQ wr B bk vL vN s rl nl (tk ++ zs)
  sub : zs.Sublist (xs.take i)
  rest : ∀ (j : Nat) (x : Lst), i ≤ j → xs[j]? = some x → LstAt wr x
  l : RowS wr B1 vl (xs.map slV)
  chg : Chg (fun x => x = bk ∨ uL.ownBlock = some x ∨ uN.ownBlock = some x ∨ x ∈ xs.map Lst.g) w1 wr
  oL : vL.ownBlock = uL.ownBlock ∨ ∃ x, vL.ownBlock = some x ∧ w1.heap.size ≤ x
  oN : vN.ownBlock = uN.ownBlock ∨ ∃ x, vN.ownBlock = some x ∧ w1.heap.size ≤ x
abbrev TkS (w1 wr : World) (B bk : Nat) (uL uN vL vN : Value) (s : Nat) (tk xs zs : List Lst) (vl : Value) (B1 i : Nat) : Prop := TkQ w1 wr B bk uL uN vL vN s (tk ++ zs) (tk ++ zs) tk xs zs vl B1 i
/-- What is asked of all lists. -/
structure TkF (w1 : World) (B bk : Nat) (uL uN vl : Value) (tk xs : List Lst) (B1 : Nat) : Prop where
  nd : (xs.map Lst.g).Nodup
  ap : ∀ x ∈ xs, x.g ∉ tk.map Lst.g
  lne : ∀ x, vl.ownBlock = some x → uL.ownBlock ≠ some x ∧ x < w1.heap.size ∧ B1 ≤ x
  len : tk.length + xs.length ≤ 900000
section
variable {w1 wr w2 w5 : World} {x : Lst} {B bk : Nat} {uL uN vL vN vl : Value} {s : Nat} {rl nl tk xs zs : List Lst} {B1 i : Nat}
theorem TkQ.below (h : TkQ w1 wr B bk uL uN vL vN s rl nl tk xs zs vl B1 i) (hb : Below wr.heap.size wr w2) : TkQ w1 w2 B bk uL uN vL vN s rl nl tk xs zs vl B1 i where
  st := h.st.below hb
  sub := h.sub
  rest j x hj hx := (h.rest j x hj hx).same (hb.block x.g (h.rest j x hj hx).lt)
  l := owns_keep h.l (fun x hx => hb.block x (owns_lt h.l x hx).2)
  chg := h.chg.trans (Chg.of_below hb)
  oL := h.oL
  oN := h.oN
/-- A cell of the Book's block is written. -/
theorem TkQ.cell (h : TkQ w1 wr B bk uL uN vL vN s rl nl tk xs zs vl B1 i) (j : Nat) (u vL' vN' : Value) (s' : Nat) (rl' nl' : List Lst) (he : (bkC vL vN s).setIfInBounds j u = bkC vL' vN' s') (h1 : RowS wr B vL' (rl'.map slV)) (h2 : RowI10 wr B vN' (nl'.map fun x => Value.int .i64 (x.n : Int)))
    (hL : vL'.ownBlock = uL.ownBlock ∨ ∃ x, vL'.ownBlock = some x ∧ w1.heap.size ≤ x) (hN : vN'.ownBlock = uN.ownBlock ∨ ∃ x, vN'.ownBlock = some x ∧ w1.heap.size ≤ x) : TkQ w1 (wr.setCell ⟨bk, j, none⟩ u) B bk uL uN vL' vN' s' rl' nl' tk xs zs vl B1 i := by
  have hc : Chg (· = bk) wr (wr.setCell ⟨bk, j, none⟩ u) := chg_setCells (m := (· = bk)) rfl [u] j wr
  have hb := h.st.blk
  have hl : ∀ x, vl.ownBlock = some x → ¬ x = bk := fun x hx e => by subst e; exact owns_kind h.l h.st.blk (by decide) hx
  have hr : ∀ x, vL'.ownBlock = some x → ¬ x = bk := fun x hx e => by subst e; exact owns_kind h1 hb (by decide) hx
  have hn : ∀ x, vN'.ownBlock = some x → ¬ x = bk := fun x hx e => by subst e; exact owns_kind h2 hb (by decide) hx
  refine ⟨⟨?_, owns_keep h1 (fun x hx => hc.block x (owns_lt h1 x hx).2 (hr x hx)), owns_keep h2 (fun x hx => hc.block x (owns_lt h2 x hx).2 (hn x hx)), fun k x hj => ?_, h.st.nd, h.st.low⟩, h.sub, fun k x hj hx => ?_, owns_keep h.l (fun x hx => hc.block x (owns_lt h.l x hx).2 (hl x hx)), h.chg.trans (hc.wide (fun x hx => .inl hx)), hL, hN⟩
  · have := hb.set j u
    rw [he] at this
    exact this
  · obtain ⟨a, b⟩ := h.st.at' k x hj
    have he := hc.block x.g a.lt (h.st.lst a).1
    exact ⟨a.same he, b.same he⟩
  · have a := h.rest k x hj hx
    exact a.same (hc.block x.g a.lt (h.st.lst a).1)
theorem TkQ.sized (h : TkQ w1 wr B bk uL uN vL vN s rl nl tk xs zs vl B1 i) (s' : Nat) : TkQ w1 (wr.setCell ⟨bk, 2, none⟩ (.int .i64 (s' : Int))) B bk uL uN vL vN s' rl nl tk xs zs vl B1 i :=
  h.cell 2 _ vL vN s' rl nl rfl h.st.row h.st.num h.oL h.oN
/-- The row of lists is grown: nothing else moves. -/
theorem TkQ.growL (h : TkQ w1 wr B bk uL uN vL vN s rl nl tk xs zs vl B1 i) (hF : TkF w1 B bk uL uN vl tk xs B1) {v' : Value} (hr : RowS w5 B v' (rl.map slV ++ [slV x])) (hg : Gr wr w5 vL v') : TkQ w1 (w5.setCell ⟨bk, 0, none⟩ v') B bk uL uN v' vN s (rl ++ [x]) nl tk xs zs vl B1 i := by
  obtain ⟨r1, r2, r3⟩ := h.st.rows
  have hst : ∀ y, y < wr.heap.size → vL.ownBlock ≠ some y → w5.heap[y]? = wr.heap[y]? := fun y h1 h2 => hg.stay h1 h2
  have hvl : ∀ y, vl.ownBlock = some y → vL.ownBlock ≠ some y := fun y hy e => by
    obtain ⟨a, b, _⟩ := hF.lne y hy
    rcases h.oL with q | ⟨z, q, hz⟩
    · exact a (q.symm.trans e)
    · rw [q] at e; cases e; omega
  have h5 : TkQ w1 w5 B bk uL uN (.slice none 0 0) vN s [] nl tk xs zs vl B1 i ∨ True := .inr trivial
  have hb5 : BkAt w5 bk vL vN s := (hst bk h.st.lt r1).trans h.st.blk
  have hn5 : RowI10 w5 B vN (nl.map fun x => Value.int .i64 (x.n : Int)) := owns_keep h.st.num (fun y hy => hst y (owns_lt h.st.num y hy).2 (fun e => r3 y e hy))
  have hl5 : RowS w5 B1 vl (xs.map slV) := owns_keep h.l (fun y hy => hst y (owns_lt h.l y hy).2 (hvl y hy))
  have hc5 : Chg (fun x => x = bk ∨ uL.ownBlock = some x ∨ uN.ownBlock = some x ∨ x ∈ xs.map Lst.g) w1 w5 := by
    refine ⟨hg.chg.os.trans h.chg.os, hg.chg.tape.trans h.chg.tape, hg.chg.output.trans h.chg.output, Nat.le_trans h.chg.size hg.chg.size, fun y hy hn => (hst y (Nat.lt_of_lt_of_le hy h.chg.size) (fun e => ?_)).trans (h.chg.block y hy hn)⟩
    rcases h.oL with q | ⟨z, q, hz⟩
    · exact hn (.inr (.inl (q.symm.trans e)))
    · rw [q] at e; cases e; omega
  have hoL : v'.ownBlock = uL.ownBlock ∨ ∃ x, v'.ownBlock = some x ∧ w1.heap.size ≤ x := by
    rcases hg.own with e | ⟨y, e, hy⟩
    · rw [e]; exact h.oL
    · exact .inr ⟨y, e, Nat.le_trans h.chg.size hy⟩
  have hc : Chg (· = bk) w5 (w5.setCell ⟨bk, 0, none⟩ v') := chg_setCells (m := (· = bk)) rfl [v'] 0 w5
  have q1 : ∀ y, v'.ownBlock = some y → ¬ y = bk := fun y hy e => by subst e; exact owns_kind hr hb5 (by decide) hy
  have q2 : ∀ y, vN.ownBlock = some y → ¬ y = bk := fun y hy e => by subst e; exact r2 hy
  have q3 : ∀ y, vl.ownBlock = some y → ¬ y = bk := fun y hy e => by subst e; exact owns_kind h.l h.st.blk (by decide) hy
  have q4 : ∀ y : Lst, LstAt wr y → (w5.setCell ⟨bk, 0, none⟩ v').heap[y.g]? = wr.heap[y.g]? := fun y hy => by
    obtain ⟨z1, z2, _⟩ := h.st.lst hy
    exact (hc.block y.g (Nat.lt_of_lt_of_le hy.lt hg.chg.size) z1).trans (hst y.g hy.lt z2)
  refine ⟨⟨hb5.set 0 v', by rw [List.map_append]; exact owns_keep hr (fun y hy => hc.block y (owns_lt hr y hy).2 (q1 y hy)), owns_keep hn5 (fun y hy => hc.block y (owns_lt hn5 y hy).2 (q2 y hy)), fun k y hj => ?_, h.st.nd, h.st.low⟩, h.sub, fun k y hj hy => (h.rest k y hj hy).same (q4 y (h.rest k y hj hy)), owns_keep hl5 (fun y hy => hc.block y (owns_lt hl5 y hy).2 (q3 y hy)), hc5.trans (hc.wide (fun x hx => .inl hx)), hoL, h.oN⟩
  obtain ⟨a, b⟩ := h.st.at' k y hj
  exact ⟨a.same (q4 y a), b.same (q4 y a)⟩
theorem TkQ.growN (h : TkQ w1 wr B bk uL uN vL vN s rl nl tk xs zs vl B1 i) {v' : Value} (hr : RowI10 w5 B v' ((nl.map fun x => Value.int .i64 (x.n : Int)) ++ [.int .i64 (x.n : Int)])) (hg : Gr wr w5 vN v') : TkQ w1 (w5.setCell ⟨bk, 1, none⟩ v') B bk uL uN vL v' s rl (nl ++ [x]) tk xs zs vl B1 i := by
  obtain ⟨r1, r2, r3⟩ := h.st.rows
  have hst : ∀ y, y < wr.heap.size → vN.ownBlock ≠ some y → w5.heap[y]? = wr.heap[y]? := fun y h1 h2 => hg.stay h1 h2
  have hvl : ∀ y, vl.ownBlock = some y → vN.ownBlock ≠ some y := fun y hy e => by
    rcases h.l.2 with ⟨q, _⟩ | ⟨g, cap, cur, q, _, hg, _⟩
    · rw [q] at hy; cases hy
    · rw [q] at hy
      have : g = y := by simpa [Value.ownBlock] using hy
      subst this
      exact owns_kind h.st.num hg (by decide) e
  have hb5 : BkAt w5 bk vL vN s := (hst bk h.st.lt r2).trans h.st.blk
  have hn5 : RowS w5 B vL (rl.map slV) := owns_keep h.st.row (fun y hy => hst y (owns_lt h.st.row y hy).2 (r3 y hy))
  have hl5 : RowS w5 B1 vl (xs.map slV) := owns_keep h.l (fun y hy => hst y (owns_lt h.l y hy).2 (hvl y hy))
  have hc5 : Chg (fun x => x = bk ∨ uL.ownBlock = some x ∨ uN.ownBlock = some x ∨ x ∈ xs.map Lst.g) w1 w5 := by
    refine ⟨hg.chg.os.trans h.chg.os, hg.chg.tape.trans h.chg.tape, hg.chg.output.trans h.chg.output, Nat.le_trans h.chg.size hg.chg.size, fun y hy hn => (hst y (Nat.lt_of_lt_of_le hy h.chg.size) (fun e => ?_)).trans (h.chg.block y hy hn)⟩
    rcases h.oN with q | ⟨z, q, hz⟩
    · exact hn (.inr (.inr (.inl (q.symm.trans e))))
    · rw [q] at e; cases e; omega
  have hoN : v'.ownBlock = uN.ownBlock ∨ ∃ x, v'.ownBlock = some x ∧ w1.heap.size ≤ x := by
    rcases hg.own with e | ⟨y, e, hy⟩
    · rw [e]; exact h.oN
    · exact .inr ⟨y, e, Nat.le_trans h.chg.size hy⟩
  have hc : Chg (· = bk) w5 (w5.setCell ⟨bk, 1, none⟩ v') := chg_setCells (m := (· = bk)) rfl [v'] 1 w5
  have q1 : ∀ y, v'.ownBlock = some y → ¬ y = bk := fun y hy e => by subst e; exact owns_kind hr hb5 (by decide) hy
  have q2 : ∀ y, vL.ownBlock = some y → ¬ y = bk := fun y hy e => by subst e; exact r1 hy
  have q3 : ∀ y, vl.ownBlock = some y → ¬ y = bk := fun y hy e => by subst e; exact owns_kind h.l h.st.blk (by decide) hy
  have q4 : ∀ y : Lst, LstAt wr y → (w5.setCell ⟨bk, 1, none⟩ v').heap[y.g]? = wr.heap[y.g]? := fun y hy => by
    obtain ⟨z1, _, z2⟩ := h.st.lst hy
    exact (hc.block y.g (Nat.lt_of_lt_of_le hy.lt hg.chg.size) z1).trans (hst y.g hy.lt z2)
  refine ⟨⟨hb5.set 1 v', owns_keep hn5 (fun y hy => hc.block y (owns_lt hn5 y hy).2 (q2 y hy)), by rw [List.map_append]; exact owns_keep hr (fun y hy => hc.block y (owns_lt hr y hy).2 (q1 y hy)), fun k y hj => ?_, h.st.nd, h.st.low⟩, h.sub, fun k y hj hy => (h.rest k y hj hy).same (q4 y (h.rest k y hj hy)), owns_keep hl5 (fun y hy => hc.block y (owns_lt hl5 y hy).2 (q3 y hy)), hc5.trans (hc.wide (fun x hx => .inl hx)), h.oL, hoN⟩
  obtain ⟨a, b⟩ := h.st.at' k y hj
  exact ⟨a.same (q4 y a), b.same (q4 y a)⟩
theorem TkS.skip (h : TkS w1 wr B bk uL uN vL vN s tk xs zs vl B1 i) : TkS w1 wr B bk uL uN vL vN s tk xs zs vl B1 (i + 1) where
  st := h.st
  sub := h.sub.trans (List.take_sublist_take_left (Nat.le_succ i))
  rest j x hj hx := h.rest j x (by omega) hx
  l := h.l
  chg := h.chg
  oL := h.oL
  oN := h.oN
/-- A list is marked. -/
theorem TkQ.mark (h : TkQ w1 wr B bk uL uN vL vN s (tk ++ zs ++ [x]) (tk ++ zs ++ [x]) tk xs zs vl B1 i) (hF : TkF w1 B bk uL uN vl tk xs B1) (hx : xs[i]? = some x) (hc : Chg (· = x.g) wr w2) (hl : LstAt w2 x) (hm : MkAt w2 x.g x.n (-(((tk ++ zs).length : Int) + 1)) 0) : TkS w1 w2 B bk uL uN vL vN s tk xs (zs ++ [x]) vl B1 (i + 1) := by
  have hxi := h.rest i x (Nat.le_refl _) hx
  obtain ⟨z1, z2, z3⟩ := h.st.lst hxi
  have hil : i < xs.length := (List.getElem?_eq_some_iff.1 hx).1
  have hmem := List.mem_of_getElem? hx
  have hzx : x.g ∉ zs.map Lst.g := fun hq => by
    have hs := (h.sub.map Lst.g).subset hq
    have hnd := hF.nd
    rw [← List.take_append_drop i xs, List.map_append] at hnd
    have hd : x.g ∈ (xs.drop i).map Lst.g := by
      rw [List.drop_eq_getElem_cons hil]
      have : xs[i] = x := by rw [List.getElem?_eq_getElem hil] at hx; exact Option.some.inj hx
      rw [this]; simp
    exact (List.nodup_append.1 hnd).2.2 _ hs _ hd rfl
  have hall : x.g ∉ (tk ++ zs).map Lst.g := by
    rw [List.map_append, List.mem_append]
    exact fun q => q.elim (hF.ap x hmem) hzx
  have hst : ∀ y, y < wr.heap.size → y ≠ x.g → w2.heap[y]? = wr.heap[y]? := fun y h1 h2 => hc.block y h1 h2
  have hkind : ∀ {e n m B' : Nat} {v : Value} {ys : List Value}, wr.ownsRow B' e n v m ys → 37 ≠ e → ∀ y, v.ownBlock = some y → y ≠ x.g := fun hr hne y hy e => by
    obtain ⟨_, _, _, _, cells, h1, _⟩ := hxi
    rw [e] at hy
    exact owns_kind hr h1 hne hy
  have hE : tk ++ (zs ++ [x]) = tk ++ zs ++ [x] := (List.append_assoc _ _ _).symm
  refine ⟨⟨(hst bk h.st.lt (fun e => z1 e.symm)).trans h.st.blk, ?_, ?_, fun j y hj => ?_, ?_, h.st.low⟩, ?_, fun j y hj hy => ?_, owns_keep h.l (fun y hy => hst y (owns_lt h.l y hy).2 (hkind h.l (by decide) y hy)), ?_, h.oL, h.oN⟩
  · rw [hE]; exact owns_keep h.st.row (fun y hy => hst y (owns_lt h.st.row y hy).2 (hkind h.st.row (by decide) y hy))
  · rw [hE]; exact owns_keep h.st.num (fun y hy => hst y (owns_lt h.st.num y hy).2 (hkind h.st.num (by decide) y hy))
  · rw [hE] at hj
    by_cases hlt : j < (tk ++ zs).length
    · rw [List.getElem?_append_left hlt] at hj
      obtain ⟨a, b⟩ := h.st.at' j y hj
      have hne : y.g ≠ x.g := fun e => hall (by rw [← e]; exact List.mem_map_of_mem (List.mem_of_getElem? hj))
      exact ⟨a.same (hst y.g a.lt hne), b.same (hst y.g a.lt hne)⟩
    · rw [List.getElem?_append_right (by omega)] at hj
      have hj0 : j - (tk ++ zs).length = 0 := by
        cases hq : j - (tk ++ zs).length with
        | zero => rfl
        | succ n => rw [hq] at hj; simp at hj
      rw [hj0] at hj
      have hxy : x = y := by simpa using hj
      subst hxy
      obtain rfl : j = (tk ++ zs).length := by omega
      exact ⟨hl, hm⟩
  · rw [hE, List.map_append]
    exact List.nodup_append.2 ⟨h.st.nd, by simp, fun a ha b hb e => by
      have : b = x.g := by simpa using hb
      subst this
      subst e
      exact hall ha⟩
  · rw [List.take_succ_eq_append_getElem hil]
    have : xs[i] = x := by rw [List.getElem?_eq_getElem hil] at hx; exact Option.some.inj hx
    rw [this]
    exact h.sub.append (List.Sublist.refl _)
  · have hne : y.g ≠ x.g := fun e => by
      have hjl : j < xs.length := (List.getElem?_eq_some_iff.1 hy).1
      have h1 : (xs.map Lst.g)[i]? = some x.g := by rw [List.getElem?_map, hx]; rfl
      have h2 : (xs.map Lst.g)[j]? = some x.g := by rw [List.getElem?_map, hy, ← e]; rfl
      have hil' : i < (xs.map Lst.g).length := by rw [List.length_map]; exact hil
      have hjl' : j < (xs.map Lst.g).length := by rw [List.length_map]; exact hjl
      have hp := (List.pairwise_iff_getElem.1 hF.nd) i j hil' hjl' (by omega)
      rw [List.getElem?_eq_getElem hil'] at h1
      rw [List.getElem?_eq_getElem hjl'] at h2
      exact hp ((Option.some.inj h1).trans (Option.some.inj h2).symm)
    have a := h.rest j y (by omega) hy
    exact a.same (hst y.g a.lt hne)
  · exact h.chg.trans (hc.wide (fun y hy => .inr (.inr (.inr (by rw [hy]; exact List.mem_map_of_mem hmem)))))
end
theorem get_slv {w : World} {B g n c : Nat} {xs : List Lst} (h : RowS w B (.slice (some ⟨g, 0, none⟩) n c) (xs.map slV)) {i : Nat} (hi : i < xs.length) : w.cell? ⟨g, i, none⟩ = some (slV xs[i]) := by
  have := World.ownsRow.cells h (g := g) rfl i (slV xs[i]) (by rw [List.getElem?_map, List.getElem?_eq_getElem hi]; rfl)
  rwa [show (⟨g, 0, none⟩ : Addr).add i = ⟨g, i, none⟩ by unfold Addr.add; split <;> simp_all] at this
theorem some_slv {w : World} {B n c : Nat} {a : Option Addr} {ls : List Value} (h : RowS w B (.slice a n c) ls) (h0 : 0 < ls.length) : ∃ g, a = some ⟨g, 0, none⟩ ∧ n = ls.length ∧ B ≤ g := by
  rcases h.2 with ⟨e, hn⟩ | ⟨g, cap, cur, e, hb, _⟩
  · omega
  · cases e; exact ⟨g, rfl, rfl, hb⟩
theorem len_slv {w : World} {B n c : Nat} {a : Option Addr} {ls : List Value} (h : RowS w B (.slice a n c) ls) : n = ls.length := by
  rcases h.2 with ⟨e, hn⟩ | ⟨g, cap, cur, e, hb, _⟩
  · cases e; exact hn.symm
  · cases e; rfl
theorem TkS.start {w wr : World} {B bk gt ll lc : Nat} {al : Option Addr} {uL uN : Value} {s : Nat} {tk xs : List Lst} {T : List Ex} {bs b1 b2 : List Nat} {n : Nat} (h : LsS w wr w.heap.size gt (.slice none 0 0) (.slice al ll lc) [] T T.length xs bs b1 b2 n) (hb : BookSt w B bk uL uN s tk) (hc : ∀ x ∈ bs, ∃ cells, w.heap[x]? = some (.cells cells 37 (0, 0))) (hnd : bs.Nodup) (hap : ∀ x ∈ bs, x ∉ tk.map Lst.g) (hN : tk.length + n ≤ 900000) :
    Below w.heap.size w wr ∧ TkS wr wr B bk uL uN uL uN s tk xs [] (.slice al ll lc) w.heap.size 0 ∧ TkF wr B bk uL uN (.slice al ll lc) tk xs w.heap.size ∧ ll = xs.length ∧ (xs.map Lst.g).Sublist bs := by
  have hbe : Below w.heap.size w wr := ⟨h.gr.chg.os, h.gr.chg.tape, h.gr.chg.output, h.gr.chg.size, fun x hx => h.gr.chg.block x hx (by intro e; cases e)⟩
  have hs : (xs.map Lst.g).Sublist bs := by rw [h.cut]; exact h.sub.trans (List.sublist_append_left _ _)
  have hr : RowS wr w.heap.size (.slice al ll lc) (xs.map slV) := by simpa using h.row
  have hst := ow_stay (B := 0) (L := []) (v := .slice al ll lc) ⟨rfl, .inl ⟨rfl, rfl⟩⟩ h.gr hc
  refine ⟨hbe, ⟨by simpa using hb.below hbe, List.nil_sublist _, fun j x _ hx => ?_, hr, Chg.refl _ _, .inl rfl, .inl rfl⟩, ⟨hs.nodup hnd, fun x hx => hap _ (hs.subset (List.mem_map_of_mem hx)), fun x hx => ?_, ?_⟩, by have := len_slv hr; rwa [List.length_map] at this, hs⟩
  · have hm := List.mem_of_getElem? hx
    exact (h.at' x hm).same (hst x.g (hs.subset (List.mem_map_of_mem hm)))
  · have hl := owns_lt hr x hx
    refine ⟨fun e => ?_, hl.2, hl.1⟩
    have := owns_lt hb.row x e
    omega
  · have := h.len
    omega
/-- What Take leaves. -/
def TakeP (w w' : World) (B bk : Nat) (uL uN : Value) (tk : List Lst) (bs : List Nat) (S : Nat) : Prop :=
  ∃ (vL vN : Value) (s : Nat) (zs : List Lst), s ≤ S ∧ BookSt w' B bk vL vN s (tk ++ zs) ∧ (zs.map Lst.g).Sublist bs ∧ Chg (fun x => x = bk ∨ uL.ownBlock = some x ∨ uN.ownBlock = some x ∨ x ∈ bs) w w' ∧ (vL.ownBlock = uL.ownBlock ∨ ∃ x, vL.ownBlock = some x ∧ w.heap.size ≤ x) ∧ (vN.ownBlock = uN.ownBlock ∨ ∃ x, vN.ownBlock = some x ∧ w.heap.size ≤ x)
theorem TkS.fin {w w1 wr : World} {B bk : Nat} {uL uN vL vN vl : Value} {s : Nat} {tk xs zs : List Lst} {bs : List Nat} {B1 : Nat} (h : TkS w1 wr B bk uL uN vL vN s tk xs zs vl B1 xs.length) (hb : Below w.heap.size w w1) {S : Nat} (hS : s ≤ S) (hs : (xs.map Lst.g).Sublist bs) : TakeP w wr B bk uL uN tk bs S := by
  refine ⟨vL, vN, s, zs, hS, h.st, ?_, ?_, h.oL.imp id (fun ⟨x, e, hx⟩ => ⟨x, e, Nat.le_trans hb.size hx⟩), h.oN.imp id (fun ⟨x, e, hx⟩ => ⟨x, e, Nat.le_trans hb.size hx⟩)⟩
  · have := h.sub
    rw [List.take_length] at this
    exact (this.map Lst.g).trans hs
  · exact (Chg.of_below hb).trans (h.chg.wide (fun x hx => by
      rcases hx with e | e | e | e
      · exact .inl e
      · exact .inr (.inl e)
      · exact .inr (.inr (.inl e))
      · exact .inr (.inr (.inr (hs.subset e)))))
abbrev ptr (b o : Nat) : Value := .pointer (some ⟨b, o, none⟩)
set_option maxHeartbeats 8000000 in
set_option maxRecDepth 100000 in
theorem take_any (w : World) (B bk gt m mc : Nat) (a : Option Addr) (uL uN : Value) (s0 : Nat) (tk : List Lst) (T : List Ex) (bs : List Nat) (hBk : BookSt w B bk uL uN s0 tk) (ha : a = some ⟨gt, 0, none⟩ ∨ T = []) (hm : m = T.length) (hT : OwL w gt 0 T bs) (hgt : T ≠ [] → gt < w.heap.size) (hnd : bs.Nodup) (hap : ∀ x ∈ bs, x ∉ tk.map Lst.g)
    (hn : ∀ t ∈ T, nodesE t ≤ 2000) (hN : tk.length + nodesL9 T ≤ 900000) (hs : s0 ≤ 3000000000000000000) :
    Calls Try.prog 10 #[ptr bk 0, .slice a m mc] w fun e w' => e = .returned (.tuple #[]) ∧ TakeP w w' B bk uL uN tk bs (s0 + 20000000 * nodesL9 T) := by
  have hcl := hide (OwL.cells T hT)
  have hst0 : LsS w w w.heap.size gt (.slice none 0 0) (.slice none 0 0) [] T 0 [] bs [] bs (nodesL9 T) := ⟨⟨rfl, .inl ⟨rfl, rfl⟩⟩, Gr.refl w _, rfl, List.Sublist.refl _, (fun x hx => by cases hx), by simpa using hT, by simp⟩
  have hRW : Hid (RowS w w.heap.size (.slice none 0 0) []) := hide ⟨rfl, .inl ⟨rfl, rfl⟩⟩
  replace hst0 := hide hst0
  replace hBk := hide hBk
  replace hnd := hide hnd
  replace hap := hide hap
  replace hn := hide hn
  replace hgt := hide hgt
  have hTl : Hid (T.length ≤ nodesL9 T) := hide (by
    have : ∀ l : List Ex, l.length ≤ nodesL9 l := by
      intro l
      induction l with
      | nil => exact Nat.le_refl _
      | cons k r ih => rw [nodesL9, List.length_cons]; have := nodes_pos k; omega
    exact this T)
  have hml : m ≤ 900000 := by have := hTl.out; omega
  replace hm := hide hm
  replace ha := hide ha
  clear hT
  go_enter Try.func10, Try.ntmps10
  go_wp2_with fail
  go_loopw [4, 5] (fun l i wr => ∃ (k : Nat) (al : Option Addr) (ll lc : Nat) (xs : List Lst) (b1 b2 : List Nat), k ≤ m ∧ l = .slice al ll lc ∧ i = .int .i64 k ∧ Hid (LsS w wr w.heap.size gt (.slice none 0 0) (.slice al ll lc) [] T k xs bs b1 b2 (nodesL9 T))) (fun _ i _ => m - (intOf i).toNat)
  case atStart => exact ⟨0, none, 0, 0, [], [], bs, Nat.zero_le _, rfl, rfl, hst0⟩
  case round =>
    clear hst0
    obtain ⟨k, al, ll, lc, xs, b1, b2, hkl, rfl, rfl, HS⟩ := hrel
    by_cases hltn : k < m
    · have p0 : (k : Int) < (m : Int) := by omega
      have hlt : k < T.length := by rw [← hm.out]; exact hltn
      obtain rfl : a = some ⟨gt, 0, none⟩ := by
        rcases ha.out with e | e
        · exact e
        · rw [e] at hlt; exact absurd hlt (Nat.not_lt_zero _)
      have hd := HS.out.kid
      rw [List.drop_eq_getElem_cons hlt] at hd
      unfold OwL at hd
      obtain ⟨cs, d1, d2, hbe, o1, r1, hd2⟩ := hd
      have hst := ow_stay hRW.out HS.out.gr hcl.out
      have hin : ∀ x ∈ d1, x ∈ bs := fun x hx => by rw [HS.out.cut, hbe]; exact List.mem_append_right _ (List.mem_append_left _ hx)
      obtain ⟨ka, kl, kc, rfl⟩ := o1.cs
      have o2 := o1.move _ (w' := _) (fun x hx => hst x (hin x hx))
      have hgs : wr.heap[gt]? = w.heap[gt]? := HS.out.gr.stay (hgt.out (fun e => by rw [e] at hlt; exact absurd hlt (Nat.not_lt_zero _))) (by intro e; cases e)
      have R1 := hide (show World.rangeAt _ gt (k * 14) (exC _ (.slice ka kl kc)).toList from range_of_block r1 hgs)
      have IH := hide (lists_any _ _ _ _ d1 _ w.heap.size o2 HS.out.row HS.out.gr.chg.size (hn.out _ (List.getElem_mem hlt)) (by have := HS.out.len; rw [List.drop_eq_getElem_cons hlt, nodesL9] at this; rw [List.length_append, List.length_map, List.length_nil]; omega))
      have hstep := hide (fun e w' hp => HS.out.step (e := e) (w' := w') hRW.out hcl.out hlt hbe hd2 hp)
      generalize T[k].nd = kn at *
      have wk : Hid (wrap64 ((k : Int) + 1) = (k : Int) + 1) := hide (IntWalk.wrap64_in _ ⟨by omega, by omega⟩)
      clear o1 o2 r1 hd2 hbe hin hst HS hgs
      go_wp2_with (first
        | (refine wpList_load_at rfl 37 _ rfl _ _ rfl _ _ (by with_reducible exact R1.out) Try.underlying37 rfl (exC_info _ _) ?_))
      refine IH.out.mono ?_
      intro e w2 hp
      obtain ⟨a4, l4, c4, ys, e1, he4, hS4⟩ := hstep.out e w2 hp
      subst he4
      replace hS4 := hide hS4
      clear hp hstep IH R1
      go_wp2_with fail
      go_roundw
      case rel => exact ⟨k + 1, _, _, _, _, _, _, hltn, rfl, by first | rfl | (rw [wk.out]; rfl), hS4⟩
      case measure =>
        try rw [wk.out]
        exact meas_ls hltn
    · have p0 : ¬ (k : Int) < (m : Int) := by omega
      obtain rfl : k = T.length := by have := hm.out; omega
      have hxn : Hid (xs.length ≤ nodesL9 T) := hide (by have := HS.out.len; omega)
      obtain ⟨hbe, hT0, hF, hll, hsub⟩ := TkS.start HS.out hBk.out hcl.out hnd.out hap.out hN
      replace hll := hide hll
      obtain ⟨w1, rfl⟩ : ∃ w1, w1 = wr := ⟨_, rfl⟩
      replace hT0 := hide hT0
      replace hF := hide hF
      replace hbe := hide hbe
      replace hsub := hide hsub
      have hsz : Hid (s0 ≤ s0 + 20000000 * 0) := hide (Nat.le_refl _)
      replace hs := hide hs
      clear HS hBk
      go_wp2_with fail
      go_loopw [6] (fun i wr => ∃ (k s : Nat) (vL vN : Value) (zs : List Lst), k ≤ ll ∧ i = .int .i64 k ∧ Hid (TkS w1 wr B bk uL uN vL vN s tk xs zs (.slice al ll lc) w.heap.size k) ∧ Hid (s ≤ s0 + 20000000 * k)) (fun i _ => ll - (intOf i).toNat)
      case atStart => exact ⟨0, s0, uL, uN, [], Nat.zero_le _, rfl, hT0, hsz⟩
      case round =>
        clear hT0 hsz
        obtain ⟨i, s, vL, vN, zs, hil, rfl, HT, hsz⟩ := hrel
        by_cases hltn : i < ll
        · have q0 : (i : Int) < (ll : Int) := by omega
          have hlt : i < xs.length := by rw [← hll.out]; exact hltn
          obtain ⟨gl, rfl, -, -⟩ := some_slv HT.out.l (by rw [List.length_map]; omega)
          have cx := get_slv HT.out.l hlt
          have hx := HT.out.rest i xs[i] (Nat.le_refl _) (List.getElem?_eq_getElem hlt)
          obtain ⟨x, hxe⟩ : ∃ x, xs[i] = x := ⟨_, rfl⟩
          rw [hxe] at cx hx
          obtain ⟨xg, xn, xc⟩ := x
          replace cx : wr.cell? ⟨gl, i, none⟩ = some (.slice (some ⟨xg, 0, none⟩) xn xc) := cx
          obtain ⟨hx1, hx2, hx3, hx4, _⟩ := hx
          replace hx1 : 0 < xc := hx1
          replace hx2 : xn ≤ xc := hx2
          replace hx3 : xc ≤ maxLen := hx3
          replace hx4 : xn ≤ 2000 := hx4
          have hR := room_any xn xc (by omega) hx3
          obtain ⟨rm, hrm⟩ : ∃ rm, roomN xn xc = rm := ⟨_, rfl⟩
          have hrl : rm ≤ 72000 := by rw [← hrm]; unfold roomN; split <;> omega
          rw [hrm] at hR
          have hlen := hF.out.len
          have kc := fun d' os => Calls.regrown_of (hR.out (grow (redrawn wr d') os))
          have c1 := cell_rg cx
          have a1 : (10 : Int) + rm ≤ 9223372036854775807 := by omega
          have a2 : (150 : Int) * (10 + rm) ≤ 9223372036854775807 := by omega
          go_wp2_with fail
          refine quiet_tail 14 (by kernel_rfl) (by kernel_rfl) ?_
          simp only [List.take_succ_cons, List.take_zero, List.drop_succ_cons, List.drop_zero]
          repeat (go_big_quiet_step (first | (with_reducible exact kc _ _)))
          refine wpQuiet_nil ?_
          intro w2 hw2
          have hb2 : Below wr.heap.size wr w2 := by obtain ⟨⟨dq, osq⟩, hq⟩ := hw2; rw [hq]; exact below_regrown _ dq osq
          have H2 := hide (HT.out.below hb2)
          have hsl : s ≤ 4000000000000000000 := by have := hsz.out; have := hs.out; omega
          have hFc := full_any w2 bk vL vN s (150 * (10 + rm)) hsl (by omega) H2.out.st.blk
          have H3 := hide (H2.out.sized (s + 150 * (10 + rm)))
          have hs3 : Hid (s + 150 * (10 + rm) ≤ s0 + 20000000 * (i + 1)) := hide (by have := hsz.out; omega)
          have hq : ((150 * (10 + rm) : Nat) : Int) = 150 * (10 + (rm : Int)) := by push_cast; rfl
          rw [hq] at hFc
          obtain ⟨s3, hs3e⟩ : ∃ s3, s + 150 * (10 + rm) = s3 := ⟨_, rfl⟩
          rw [hs3e] at H3 hs3 hFc
          clear hb2 hw2 c1 kc cx H2 HT hq
          go_wp2_with fail
          refine hFc.mono ?_
          rintro e w3 ⟨rfl, hw3⟩
          rw [← hw3] at H3
          clear hFc hw3
          cases hfull : decide (33554432 < s3) with
          | true =>
            replace H3 := hide (TkS.skip H3.out)
            clear hfull
            go_wp2_with fail
            go_roundw
            case rel => exact ⟨i + 1, s3, vL, vN, zs, by omega, by go_num, H3, hs3⟩
            case measure => exact meas_ls hltn
          | false =>
            clear hfull
            have e0 := H3.out.st.blk.at' 0
            replace e0 : w3.cell? ⟨bk, 0, none⟩ = some vL := e0
            have cx : w3.cell? ⟨gl, i, none⟩ = some (.slice (some ⟨xg, 0, none⟩) xn xc) := by have := get_slv H3.out.l hlt; rw [hxe] at this; exact this
            go_wp2_with fail
            have hb4 : Below w3.heap.size w3 w3.drew := (Below.refl _ _).drew
            have H4 := H3.out.below (step hb4 (.cells #[.slice (some ⟨xg, 0, none⟩) xn xc] 30))
            have cX : Hid ((w3.drew.alloc (.cells #[.slice (some ⟨xg, 0, none⟩) xn xc] 30)).cell? ⟨w3.heap.size, 0, none⟩ = some (.slice (some ⟨xg, 0, none⟩) xn xc)) := hide ((Blk.new w3.drew #[.slice (some ⟨xg, 0, none⟩) xn xc] 30).at' 0)
            have hBz := hide (Nat.le_trans H4.st.low (Nat.le_of_lt H4.st.lt))
            have hlz : Hid (((tk ++ zs).map slV).length < 1000000) := hide (by
              have h1 := H3.out.sub.length_le
              rw [List.length_take] at h1
              rw [List.length_map, List.length_append]
              omega)
            obtain ⟨LV, hLV⟩ : ∃ LV, (tk ++ zs).map slV = LV := ⟨_, rfl⟩
            rw [hLV] at hlz
            have R4 : Hid (RowS (w3.drew.alloc (.cells #[.slice (some ⟨xg, 0, none⟩) xn xc] 30)) B vL LV) := hide (by rw [← hLV]; exact H4.st.row)
            replace hLV := hide hLV
            replace H4 := hide H4
            have e0' : (w3.alloc (.cells #[.slice (some ⟨xg, 0, none⟩) xn xc] 30)).cell? ⟨bk, 0, none⟩ = some vL := (World.cell?_of_block (Below.heap_alloc w3 _ bk (World.block_lt_of_cell? w3 ⟨bk, 0, none⟩ e0))).trans e0
            clear hb4
            go_cut [51] from 41 to 53 (fun c wx => ∃ (a5 : Option Addr) (n5 c5 : Nat), c = .slice a5 n5 c5 ∧ Hid (TkQ w1 wx B bk uL uN (.slice a5 n5 c5) vN s3 (tk ++ zs ++ [⟨xg, xn, xc⟩]) (tk ++ zs) tk xs zs (.slice (some ⟨gl, 0, none⟩) ll lc) w.heap.size i))
            case first =>
              go_region_law (refine step_appS (v := vL) (X := w3.heap.size) (sv := .slice (some ⟨xg, 0, none⟩) xn xc) (by rfl) _ _ (by rfl) (by rfl) (by rfl) R4.out cX.out rfl hlz.out hBz.out ?_; intro v5 w5 r5 g5; obtain ⟨a5, n5, c5, rfl⟩ := row_slv' r5; have b5 : Hid (BkAt w5 bk vL vN s3) := hide ((g5.stay H4.out.st.lt H4.out.st.rows.1).trans H4.out.st.blk); have H5 := hide (H4.out.growL hF.out (x := ⟨xg, xn, xc⟩) (by rw [hLV.out]; exact r5) g5); have fr5 : w5.frozen? ⟨bk, 0, none⟩ = false := b5.out.fr 0; have e5 : w5.cell? ⟨bk, 0, none⟩ = some vL := b5.out.at' 0; clear r5 g5)
              all_goals (go_wp2_with fail)
              all_goals go_meet
              all_goals exact ⟨_, _, _, rfl, H5⟩
            case rest =>
            obtain ⟨a5, n5, c5, rfl, H5⟩ := hcut
            obtain ⟨w6, rfl⟩ : ∃ w6, w6 = wc := ⟨_, rfl⟩
            clear e0 e0' cx H4 R4 cX hBz H3
            have e0 : w6.cell? ⟨bk, 1, none⟩ = some vN := H5.out.st.blk.at' 1
            have cx : w6.cell? ⟨gl, i, none⟩ = some (.slice (some ⟨xg, 0, none⟩) xn xc) := by have := get_slv H5.out.l hlt; rw [hxe] at this; exact this
            go_wp2_with fail
            have hb7 : Below w6.heap.size w6 w6.drew := (Below.refl _ _).drew
            have H7 := H5.out.below (step hb7 (.cells #[.int .i64 (xn : Int)] 3))
            have cX : Hid ((w6.drew.alloc (.cells #[.int .i64 (xn : Int)] 3)).cell? ⟨w6.heap.size, 0, none⟩ = some (.int .i64 (xn : Int))) := hide ((Blk.new w6.drew #[.int .i64 (xn : Int)] 3).at' 0)
            have hBz := hide (Nat.le_trans H7.st.low (Nat.le_of_lt H7.st.lt))
            obtain ⟨NV, hNV⟩ : ∃ NV, ((tk ++ zs).map fun x => Value.int .i64 (x.n : Int)) = NV := ⟨_, rfl⟩
            have hnz : Hid (NV.length < 1000000) := hide (by rw [← hNV, List.length_map]; have := hlz.out; rw [← hLV.out, List.length_map] at this; exact this)
            have R7 : Hid (RowI10 (w6.drew.alloc (.cells #[.int .i64 (xn : Int)] 3)) B vN NV) := hide (by rw [← hNV]; exact H7.st.num)
            replace hNV := hide hNV
            replace H7 := hide H7
            have e0' : (w6.alloc (.cells #[.int .i64 (xn : Int)] 3)).cell? ⟨bk, 1, none⟩ = some vN := (World.cell?_of_block (Below.heap_alloc w6 _ bk (World.block_lt_of_cell? w6 ⟨bk, 1, none⟩ e0))).trans e0
            clear hb7
            go_cut [65] from 54 to 67 (fun c wx => ∃ (a8 : Option Addr) (n8 c8 : Nat), c = .slice a8 n8 c8 ∧ Hid (TkQ w1 wx B bk uL uN (.slice a5 n5 c5) (.slice a8 n8 c8) s3 (tk ++ zs ++ [⟨xg, xn, xc⟩]) (tk ++ zs ++ [⟨xg, xn, xc⟩]) tk xs zs (.slice (some ⟨gl, 0, none⟩) ll lc) w.heap.size i))
            case first =>
              go_region_law (refine step_appN (v := vN) (X := w6.heap.size) (sv := .int .i64 (xn : Int)) (by rfl) _ _ (by rfl) (by rfl) (by rfl) R7.out cX.out rfl hnz.out hBz.out ?_; intro v8 w8 r8 g8; obtain ⟨a8, n8, c8, rfl⟩ := row_slv2 r8; have b8 : Hid (BkAt w8 bk (.slice a5 n5 c5) vN s3) := hide ((g8.stay H7.out.st.lt H7.out.st.rows.2.1).trans H7.out.st.blk); have H8 := hide (H7.out.growN (x := ⟨xg, xn, xc⟩) (by rw [hNV.out]; exact r8) g8); have fr8 : w8.frozen? ⟨bk, 1, none⟩ = false := b8.out.fr 1; have e8 : w8.cell? ⟨bk, 1, none⟩ = some vN := b8.out.at' 1; clear r8 g8)
              all_goals (go_wp2_with fail)
              all_goals go_meet
              all_goals exact ⟨_, _, _, rfl, H8⟩
            case rest =>
            obtain ⟨a8, n8, c8, rfl, H8⟩ := hcut
            obtain ⟨w9, rfl⟩ : ∃ w9, w9 = wc := ⟨_, rfl⟩
            clear e0 e0' cx H7 R7 cX hBz H5
            have hn5 : Hid ((n5 : Int) = ((tk ++ zs).length : Int) + 1) := hide (by
              have := len_slv H8.out.st.row
              rw [List.length_map, List.length_append, List.length_singleton] at this
              omega)
            have hn5l : n5 ≤ 1000000 := by have := hlz.out; rw [← hLV.out, List.length_map] at this; have := hn5.out; omega
            have hxa := H8.out.rest i ⟨xg, xn, xc⟩ (Nat.le_refl _) (by rw [List.getElem?_eq_getElem hlt, hxe])
            have hxb := hide (H8.out.st.lst hxa)
            have hxa' := hide hxa
            have hgl : Hid (gl ≠ xg) := hide (fun e => by
              obtain ⟨_, _, _, _, cells, h1, _⟩ := hxa
              exact owns_kind H8.out.l h1 (by decide) (by rw [e]; rfl))
            have L8 := hide H8.out.l
            have E8 := hide H8.out.st.blk
            have hM0 : Hid (MkAt w9 xg 0 (-(n5 : Int)) 0) := hide (fun k hk => absurd hk (Nat.not_lt_zero k))
            clear hxa
            go_wp2_with fail
            go_loopw [7] (fun kv wq => ∃ (k : Nat), k ≤ xn ∧ kv = .int .i64 k ∧ Hid (Chg (· = xg) w9 wq) ∧ Hid (LstAt wq ⟨xg, xn, xc⟩) ∧ Hid (MkAt wq xg k (-(n5 : Int)) 0)) (fun kv _ => xn - (intOf kv).toNat)
            case atStart => exact ⟨0, Nat.zero_le _, rfl, hide (Chg.refl _ _), hxa', hM0⟩
            case round =>
              clear hxa' hM0
              obtain ⟨k, hk, rfl, hC, hA, hM⟩ := hrel
              have hcx : wr.cell? ⟨gl, i, none⟩ = some (.slice (some ⟨xg, 0, none⟩) xn xc) := by
                have h1 := get_slv L8.out hlt
                rw [hxe] at h1
                exact (World.cell?_of_block (hC.out.block gl (World.block_lt_of_cell? w9 ⟨gl, i, none⟩ h1) hgl.out)).trans h1
              by_cases hkn : k < xn
              · have k0 : (k : Int) < (xn : Int) := by omega
                have e0 : wr.cell? ⟨bk, 0, none⟩ = some (.slice a5 n5 c5) := (World.cell?_of_block (hC.out.block bk E8.out.lt (fun e => hxb.out.1 e.symm))).trans (E8.out.at' 0)
                have f0 := cell_rg e0
                have f1 := cell_rg hcx
                have hneg : -9223372036854775808 ≤ -(n5 : Int) := by omega
                go_wp2_with fail
                refine quiet_tail 13 (by kernel_rfl) (by kernel_rfl) ?_
                simp only [List.take_succ_cons, List.take_zero, List.drop_succ_cons, List.drop_zero]
                repeat (go_big_quiet_step (fail))
                refine wpQuiet_nil ?_
                intro w10 hw10
                have hb10 : Below wr.heap.size wr w10 := by obtain ⟨⟨dq, osq⟩, hq⟩ := hw10; rw [hq]; exact below_regrown _ dq osq
                have hs10 := hb10.block xg hA.out.lt
                have A10 := hide (hA.out.same hs10)
                have M10 := hide (hM.out.same hs10)
                have C10 := hide (hC.out.trans (Chg.of_below hb10))
                have th10 : w10.there xg (k * 14) 14 := A10.out.th (k := k) (show k < xc by omega)
                clear hw10 hb10 hs10 hC hA hM f0 f1 e0 hcx
                have C11 := hide (C10.out.trans (putM_chg w10 xg k (-(n5 : Int)) 0))
                have A11 := hide (A10.out.put (y := ⟨xg, xn, xc⟩) k (-(n5 : Int)) 0)
                have M11 := hide (M10.out.put th10)
                go_wp2_with (refine wpList_putM (g := xg) (k := k) (q := -(n5 : Int)) (op := 0) rfl _ _ rfl rfl rfl th10 ?_; obtain ⟨w11, hw11⟩ : ∃ w11, putM w10 xg k (-(n5 : Int)) 0 = w11 := ⟨_, rfl⟩; rw [hw11])
                have C11 := hide (by rw [← hw11]; exact C11.out : Chg (· = xg) w9 w11)
                have A11 := hide (by rw [← hw11]; exact A11.out : LstAt w11 ⟨xg, xn, xc⟩)
                have M11 := hide (by rw [← hw11]; exact M11.out : MkAt w11 xg (k + 1) (-(n5 : Int)) 0)
                exact ⟨⟨k + 1, hkn, rfl, C11, A11, M11⟩, meas_ls hkn⟩
              · have k0 : ¬ (k : Int) < (xn : Int) := by omega
                obtain rfl : k = xn := by omega
                have HM := hide (H8.out.mark hF.out (x := ⟨xg, k, xc⟩) (by rw [List.getElem?_eq_getElem hlt, hxe]) hC.out hA.out (by rw [← hn5.out]; exact hM.out))
                clear hC hA hM H8 L8 E8 hxb
                go_wp2_with fail
                exact ⟨⟨i + 1, s3, _, _, _, by omega, rfl, HM, hs3⟩, meas_ls hltn⟩
        · have q0 : ¬ (i : Int) < (ll : Int) := by omega
          obtain rfl : i = xs.length := by have := hll.out; omega
          have hfin := hide (TkS.fin HT.out hbe.out (S := s0 + 20000000 * nodesL9 T) (by have := hsz.out; have := hxn.out; omega) hsub.out)
          clear HT
          go_wp2_with fail
          refine Go.Great.bodyPost_end0 rfl rfl ?_
          exact ⟨rfl, hfin.out⟩
end Go.Proofs.Ytiajoppbgebnpaa
