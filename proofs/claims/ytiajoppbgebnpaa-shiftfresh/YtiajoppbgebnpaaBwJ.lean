/- Law 10's Book, its lists grown over their spare room: what stands while they are. No Go in sight but one step. Law 10's Book.Whole: each list is grown over its spare room, and each holds its own marks alone. Proved of the Go text. -/
import Derived.Test.YtiajoppbgebnpaaBt12
import Derived.Deep.RegionWith
namespace Go.Proofs.Ytiajoppbgebnpaa
open Go.RowKit Go.Sort
set_option linter.unusedVariables false

def updN (f : Nat → Nat) (i v : Nat) : Nat → Nat := fun j => if j = i then v else f j
theorem updN_same (f : Nat → Nat) (i v : Nat) : updN f i v i = v := if_pos rfl
theorem updN_other (f : Nat → Nat) {i j : Nat} (v : Nat) (h : j ≠ i) : updN f i v j = f j := if_neg h
section
variable {ops : Array Oper} {rest : List Oper} {o : Oper} {a : Act} {w : World} {Q : Exit → Act → World → Prop} {Kn : Act → World → Prop} {E : Prop} {g k c X : Nat} {q op : Int}
theorem wpList_fitM (hg : o.guard = none) (s y : Operand) (hop : o.op = Op.call { callee := Callee.builtin Builtin.append, args := #[s, y], argTypes := #[30, 30] })
    (hs : a.eval s = .slice (some ⟨g, 0, none⟩) k c) (hx : a.eval y = .slice (some ⟨X, 0, none⟩) 1 1) (hc : w.rangeAt X 0 (mkC q op).toList) (ht : w.there g (k * 14) 14) (hlt : k < c)
    (hK : wpList Try.prog ops Q rest (a.put o.dst (.slice (some ⟨g, 0, none⟩) (k + 1) c)) (putM w g k q op)) : wpList Try.prog ops Q (o :: rest) a w := by
  obtain ⟨i0, hi, hz0, hz1, hz2⟩ := info_parts info_ex
  refine wpList_plain hg fun K hKK => ?_
  have hrun := run_append_room_cells (P := Try.prog) w 30 o.type 37 i0 Try.underlying30 hi g 0 k c ⟨X, 0, none⟩ 1 1 (mkC q op).toList (by rw [mk_len, hz1]) (fun j u hj => by rw [Addr.add_mid, Nat.zero_add]; have := hc j u hj; rwa [Nat.zero_add] at this)
    (fun u hu => (Array.all_eq_true_iff_forall_mem.1 (exC_one _ _ _ _)) u (by simpa using hu)) (by omega) (fun j hj => by rw [hz1, Nat.zero_add]; exact (ht j (by rw [mk_len] at hj; exact hj)).1) (fun j hj => by rw [hz1, Nat.zero_add]; exact (ht j (by rw [mk_len] at hj; exact hj)).2)
  rw [hz1, Nat.zero_add] at hrun
  unfold Oper.wp execOp
  simp only [hop, resolve, invoke, builtin, Sem.run_bind, Sem.run_pure, Result.andThen_ok, List.map_toArray, List.map_cons, List.map_nil, hs, hx, hrun]
  exact hKK _ _ hK
theorem step_fitM (hg : o.guard = none) (s y : Operand) (hop : o.op = Op.call { callee := Callee.builtin Builtin.append, args := #[s, y], argTypes := #[30, 30] })
    (hs : a.eval s = .slice (some ⟨g, 0, none⟩) k c) (hx : a.eval y = .slice (some ⟨X, 0, none⟩) 1 1) (hc : w.rangeAt X 0 (mkC q op).toList) (ht : w.there g (k * 14) 14) (hlt : k < c)
    (hK : Kn (a.put o.dst (.slice (some ⟨g, 0, none⟩) (k + 1) c)) (putM w g k q op)) : if Region.wanted o (yielded ops a.tmps) = true then Oper.wp Try.prog o a w Kn Q else E := by
  obtain ⟨i0, hi, hz0, hz1, hz2⟩ := info_parts info_ex
  refine step_append_room hg s y 30 hop 37 i0 14 Try.underlying30 hi hz1 g 0 k c hs ⟨X, 0, none⟩ 1 1 (mkC q op).toList hx (by rw [mk_len]) (fun j u hj => by rw [Addr.add_mid, Nat.zero_add]; have := hc j u hj; rwa [Nat.zero_add] at this)
    (fun u hu => (Array.all_eq_true_iff_forall_mem.1 (exC_one _ _ _ _)) u (by simpa using hu)) (by omega) (fun j hj => by rw [Nat.zero_add]; exact ht j (by rw [mk_len] at hj; exact hj)) ?_
  rw [Nat.zero_add]
  exact hK
end
/-- The lists' blocks, whatever they hold. -/
def LstB (w : World) (g c : Nat) : Prop := 0 < c ∧ c ≤ maxLen ∧ ∃ cells, w.heap[g]? = some (.cells cells 37 (0, 0)) ∧ cells.size = c * 14
theorem LstB.lt {w : World} {g c : Nat} (h : LstB w g c) : g < w.heap.size := by
  obtain ⟨_, _, cells, h1, _⟩ := h
  exact (Array.getElem?_eq_some_iff.1 h1).1
theorem LstB.same {w w' : World} {g c : Nat} (h : LstB w g c) (he : w'.heap[g]? = w.heap[g]?) : LstB w' g c := by
  obtain ⟨a, b, cells, h1, h2⟩ := h
  exact ⟨a, b, cells, he.trans h1, h2⟩
theorem LstB.th {w : World} {g c k : Nat} (h : LstB w g c) (hk : k < c) : w.there g (k * 14) 14 := by
  obtain ⟨_, _, cells, h1, h2⟩ := h
  exact there_of_row h1 (by rw [h2]; omega)
theorem LstB.put {w : World} {g c g' k : Nat} {q op : Int} (h : LstB w g c) : LstB (putM w g' k q op) g c := by
  obtain ⟨a, b, cells, h1, h2⟩ := h
  by_cases e : g = g'
  · obtain ⟨cs', h3, h4⟩ := row_setCells g 37 (mkC q op).toList (k * 14) w cells h1
    exact ⟨a, b, cs', by unfold putM; rw [← e]; exact h3, by rw [h4]; exact h2⟩
  · exact ⟨a, b, cells, (heap_setCells g' _ _ w g e).trans h1, h2⟩
/-- While the lists are grown: how long each is told to be (ln), how far each is marked (mm). -/
structure WhQ (w0 wr : World) (B bk : Nat) (vL vN : Value) (s : Nat) (tk : List Lst) (ls : List Value) (ln mm : Nat → Nat) : Prop where
  blk : BkAt wr bk vL vN s
  row : RowS wr B vL ls
  num : RowI10 wr B vN (tk.map fun x => Value.int .i64 (x.n : Int))
  ll : ls.length = tk.length
  at' : ∀ (j : Nat) (x : Lst), tk[j]? = some x → ls[j]? = some (.slice (some ⟨x.g, 0, none⟩) (ln j) x.c) ∧ LstB wr x.g x.c ∧ x.n ≤ 2000 ∧ x.n ≤ x.c ∧ x.n ≤ mm j ∧ MkAt wr x.g x.n (-((j : Int) + 1)) 0 ∧ ∀ k, x.n ≤ k → k < mm j → wr.rangeAt x.g (k * 14) (mkC (-((j : Int) + 1)) 1).toList
  nd : (tk.map Lst.g).Nodup
  low : B ≤ bk
  chg : Chg (fun x => vL.ownBlock = some x ∨ x ∈ tk.map Lst.g) w0 wr
section
variable {w0 wr w2 : World} {B bk : Nat} {vL vN : Value} {s : Nat} {tk : List Lst} {ls : List Value} {ln mm : Nat → Nat}
theorem WhQ.start (h : BookSt wr B bk vL vN s tk) : WhQ wr wr B bk vL vN s tk (tk.map slV) (fun j => (tk[j]?.map Lst.n).getD 0) (fun j => (tk[j]?.map Lst.n).getD 0) := by
  refine ⟨h.blk, h.row, h.num, by rw [List.length_map], fun j x hj => ?_, h.nd, h.low, Chg.refl _ _⟩
  obtain ⟨⟨a1, a2, a3, a4, a5⟩, b⟩ := h.at' j x hj
  have e : (tk[j]?.map Lst.n).getD 0 = x.n := by rw [hj]; rfl
  refine ⟨by rw [List.getElem?_map, hj]; rfl, ⟨a1, a3, a5⟩, a4, a2, by rw [e]; exact Nat.le_refl _, b, fun k h1 h2 => ?_⟩
  rw [e] at h2
  omega
theorem WhQ.below (h : WhQ w0 wr B bk vL vN s tk ls ln mm) (hb : Below wr.heap.size wr w2) : WhQ w0 w2 B bk vL vN s tk ls ln mm where
  blk := (hb.block bk (Array.getElem?_eq_some_iff.1 h.blk).1).trans h.blk
  row := owns_keep h.row (fun x hx => hb.block x (owns_lt h.row x hx).2)
  num := owns_keep h.num (fun x hx => hb.block x (owns_lt h.num x hx).2)
  ll := h.ll
  at' j x hj := by
    obtain ⟨a, b, b2, b3, b4, c, d⟩ := h.at' j x hj
    have he := hb.block x.g b.lt
    exact ⟨a, b.same he, b2, b3, b4, c.same he, fun k h1 h2 => range_of_block (d k h1 h2) he⟩
  nd := h.nd
  low := h.low
  chg := h.chg.trans (Chg.of_below hb)
theorem WhQ.kinds (h : WhQ w0 wr B bk vL vN s tk ls ln mm) {g c : Nat} (hg : LstB wr g c) : g ≠ bk ∧ vL.ownBlock ≠ some g ∧ vN.ownBlock ≠ some g := by
  obtain ⟨_, _, cells, h1, _⟩ := hg
  refine ⟨fun e => ?_, owns_kind h.row h1 (by decide), owns_kind h.num h1 (by decide)⟩
  subst e
  have := h.blk
  unfold BkAt Blk at this
  rw [h1] at this
  cases this
theorem lst_ne {j i : Nat} {x y : Lst} (hnd : (tk.map Lst.g).Nodup) (hj : tk[j]? = some x) (hi : tk[i]? = some y) (hne : j ≠ i) : x.g ≠ y.g := fun e => by
  have h1 : (tk.map Lst.g)[j]? = some x.g := by rw [List.getElem?_map, hj]; rfl
  have h2 : (tk.map Lst.g)[i]? = some x.g := by rw [List.getElem?_map, hi, e]; rfl
  have hj' := (List.getElem?_eq_some_iff.1 h1).1
  have hi' := (List.getElem?_eq_some_iff.1 h2).1
  rw [List.getElem?_eq_getElem hj'] at h1
  rw [List.getElem?_eq_getElem hi'] at h2
  have h3 := Option.some.inj (h1.trans h2.symm)
  rcases Nat.lt_or_gt_of_ne hne with q | q
  · exact (List.pairwise_iff_getElem.1 hnd) j i hj' hi' q h3
  · exact (List.pairwise_iff_getElem.1 hnd) i j hi' hj' q h3.symm
/-- A place behind what is marked is written. -/
theorem WhQ.put (h : WhQ w0 wr B bk vL vN s tk ls ln mm) {i m : Nat} {x : Lst} (hi : tk[i]? = some x) (hm : mm i ≤ m) (q op : Int) : WhQ w0 (putM wr x.g m q op) B bk vL vN s tk ls ln mm := by
  obtain ⟨_, hb, _, _, _, _, _⟩ := h.at' i x hi
  obtain ⟨k1, k2, k3⟩ := h.kinds hb
  have hc := putM_chg wr x.g m q op
  refine ⟨(hc.block bk (Array.getElem?_eq_some_iff.1 h.blk).1 (fun e => k1 e.symm)).trans h.blk, owns_keep h.row (fun y hy => hc.block y (owns_lt h.row y hy).2 (fun e => k2 (by rw [← e]; exact hy))), owns_keep h.num (fun y hy => hc.block y (owns_lt h.num y hy).2 (fun e => k3 (by rw [← e]; exact hy))), h.ll, fun j y hj => ?_, h.nd, h.low, h.chg.trans (hc.wide (fun y hy => .inr (by rw [hy]; exact List.mem_map_of_mem (List.mem_of_getElem? hi))))⟩
  obtain ⟨a, b, b2, b3, b4, c, d⟩ := h.at' j y hj
  refine ⟨a, b.put, b2, b3, b4, ?_, fun k h1 h2 => ?_⟩
  · by_cases e : j = i
    · subst e
      obtain rfl : x = y := Option.some.inj (hi.symm.trans hj)
      exact c.other (by omega)
    · exact c.same (hc.block y.g b.lt (lst_ne h.nd hj hi e))
  · by_cases e : j = i
    · subst e
      obtain rfl : x = y := Option.some.inj (hi.symm.trans hj)
      exact World.rangeAt_setCells_apart (d k h1 h2) x.g (m * 14) _ (.inr (.inl (by rw [mk_len]; omega)))
    · exact range_of_block (d k h1 h2) (hc.block y.g b.lt (lst_ne h.nd hj hi e))
/-- One place more is marked. -/
theorem WhQ.mark (h : WhQ w0 wr B bk vL vN s tk ls ln mm) {i m : Nat} {x : Lst} (hi : tk[i]? = some x) (hm : mm i = m) (hc : m < x.c) : WhQ w0 (putM wr x.g m (-((i : Int) + 1)) 1) B bk vL vN s tk ls ln (updN mm i (m + 1)) := by
  have h2 := h.put hi (Nat.le_of_eq hm) (-((i : Int) + 1)) 1
  obtain ⟨_, hb, _, _, _, _, _⟩ := h.at' i x hi
  refine ⟨h2.blk, h2.row, h2.num, h2.ll, fun j y hj => ?_, h2.nd, h2.low, h2.chg⟩
  obtain ⟨a, b, b2, b3, b4, c, d⟩ := h2.at' j y hj
  by_cases e : j = i
  · subst e
    obtain rfl : x = y := Option.some.inj (hi.symm.trans hj)
    rw [updN_same]
    refine ⟨a, b, b2, b3, by omega, c, fun k h1 h3 => ?_⟩
    by_cases e : k = m
    · subst e
      exact World.rangeAt_setCells_same wr x.g (k * 14) _ (by rw [mk_len]; exact hb.th hc)
    · exact d k h1 (by omega)
  · rw [updN_other mm (m + 1) e]
    exact ⟨a, b, b2, b3, b4, c, d⟩
/-- A list is told to be longer. -/
theorem WhQ.told {gL cL n i m' : Nat} (h : WhQ w0 wr B bk (.slice (some ⟨gL, 0, none⟩) n cL) vN s tk ls ln mm) {x : Lst} (hi : tk[i]? = some x) : WhQ w0 (wr.setCell ⟨gL, i, none⟩ (.slice (some ⟨x.g, 0, none⟩) m' x.c)) B bk (.slice (some ⟨gL, 0, none⟩) n cL) vN s tk (ls.set i (.slice (some ⟨x.g, 0, none⟩) m' x.c)) (updN ln i m') mm := by
  have hn := len_slv h.row
  subst hn
  have hc : Chg (· = gL) wr (wr.setCell ⟨gL, i, none⟩ (.slice (some ⟨x.g, 0, none⟩) m' x.c)) := chg_setCells (m := (· = gL)) rfl [_] i wr
  have hil : i < ls.length := by rw [h.ll]; exact (List.getElem?_eq_some_iff.1 hi).1
  have hst := (World.ownsRow.stored h.row i (.slice (some ⟨x.g, 0, none⟩) m' x.c)).1
  have o1 : Value.ownBlock (.slice (some ⟨gL, 0, none⟩) ls.length cL) = some gL := rfl
  refine ⟨(hc.block bk (Array.getElem?_eq_some_iff.1 h.blk).1 (fun e => owns_kind h.row h.blk (by decide) (by rw [o1, e]))).trans h.blk, by unfold RowS; rw [List.length_set]; exact hst, owns_keep h.num (fun y hy => hc.block y (owns_lt h.num y hy).2 (fun e => ?_)), by rw [List.length_set]; exact h.ll, fun j y hj => ?_, h.nd, h.low, h.chg.trans (hc.wide (fun y hy => .inl (by rw [hy]; rfl)))⟩
  · rcases h.row.2 with ⟨q, _⟩ | ⟨g, cap, cur, q, _, hg, _⟩
    · cases q
    · cases q
      subst e
      exact owns_kind h.num hg (by decide) hy
  · obtain ⟨a, b, b2, b3, b4, c, d⟩ := h.at' j y hj
    obtain ⟨_, q2, _⟩ := h.kinds b
    have he := hc.block y.g b.lt (fun e => q2 (by rw [o1, e]))
    refine ⟨?_, b.same he, b2, b3, b4, c.same he, fun k h1 h2 => range_of_block (d k h1 h2) he⟩
    by_cases e : j = i
    · subst e
      obtain rfl : x = y := Option.some.inj (hi.symm.trans hj)
      rw [updN_same, List.getElem?_set_self hil]
    · rw [updN_other ln m' e, List.getElem?_set_ne (fun q => e q.symm)]
      exact a
theorem WhQ.cellAt {gL cL n i : Nat} (h : WhQ w0 wr B bk (.slice (some ⟨gL, 0, none⟩) n cL) vN s tk ls ln mm) {x : Lst} (hi : tk[i]? = some x) : wr.cell? ⟨gL, i, none⟩ = some (.slice (some ⟨x.g, 0, none⟩) (ln i) x.c) := by
  obtain ⟨z, _⟩ := h.at' i x hi
  have := World.ownsRow.cells h.row (g := gL) rfl i _ z
  rwa [show (⟨gL, 0, none⟩ : Addr).add i = ⟨gL, i, none⟩ by unfold Addr.add; split <;> simp_all] at this
end
end Go.Proofs.Ytiajoppbgebnpaa
namespace Go.Proofs.Ytiajoppbgebnpaa
open Go.RowKit Go.Sort
set_option linter.unusedVariables false

/-- How long the lists are told to be while the i-th is grown. -/
def LnAt (tk : List Lst) (ln : Nat → Nat) (i m : Nat) : Prop := ∀ (j : Nat) (x : Lst), tk[j]? = some x → (j < i → ln j = roomN x.n x.c) ∧ (j = i → ln j = m) ∧ (i < j → ln j = x.n)
theorem LnAt.next {tk : List Lst} {ln : Nat → Nat} {i m : Nat} {x : Lst} (h : LnAt tk ln i m) (hi : tk[i]? = some x) (hm : m = roomN x.n x.c) (m' : Nat) (hm' : ∀ y, tk[i + 1]? = some y → m' = y.n) : LnAt tk ln (i + 1) m' := fun j y hj => by
  obtain ⟨a, b, c⟩ := h j y hj
  refine ⟨fun q => ?_, fun q => ?_, fun q => c (by omega)⟩
  · by_cases e : j = i
    · subst e
      obtain rfl : x = y := Option.some.inj (hi.symm.trans hj)
      rw [b rfl, hm]
    · exact a (by omega)
  · subst q
    rw [c (by omega), hm' y hj]
theorem LnAt.up {tk : List Lst} {ln : Nat → Nat} {i m : Nat} (h : LnAt tk ln i m) (m' : Nat) : LnAt tk (updN ln i m') i m' := fun j y hj => by
  obtain ⟨a, b, c⟩ := h j y hj
  by_cases e : j = i
  · subst e
    rw [updN_same]
    exact ⟨fun q => by omega, fun _ => rfl, fun q => by omega⟩
  · rw [updN_other ln m' e]
    exact ⟨a, fun q => absurd q e, c⟩
theorem keep9 {W w1 : World} {b o : Nat} {v : Value} (hb : Below W.heap.size W w1) (h : W.cell? ⟨b, o, none⟩ = some v) : w1.cell? ⟨b, o, none⟩ = some v := (World.cell?_of_block (hb.block b (World.block_lt_of_cell? W ⟨b, o, none⟩ h))).trans h
theorem len_sl2 {w : World} {B e z m n c : Nat} {a : Option Addr} {ls : List Value} (h : w.ownsRow B e z (.slice a n c) m ls) : n = m := by
  rcases h.2 with ⟨q, h0⟩ | ⟨g, cap, cur, q, _⟩
  · cases q; exact h0.symm
  · cases q; rfl
theorem owns_fr {w : World} {B e n m g k cap : Nat} {xs : List Value} {v : Value} (h : w.ownsRow B e n v m xs) (hv : v = .slice (some ⟨g, 0, none⟩) k cap) (i : Nat) : w.frozen? ⟨g, i, none⟩ = false := by
  subst hv
  rcases h.2 with ⟨q, _⟩ | ⟨g', cap', cur, q, _, hg, _⟩
  · cases q
  · cases q
    simp [World.frozen?, hg]
set_option maxHeartbeats 8000000 in
set_option maxRecDepth 100000 in
theorem whole_any (w : World) (B bk : Nat) (vL vN : Value) (s : Nat) (tk : List Lst) (hBk : BookSt w B bk vL vN s tk) (hN : tk.length ≤ 900000) :
    Calls Try.prog 12 #[ptr bk 0] w fun e w' => e = .returned (.bool true) ∧ Chg (fun x => vL.ownBlock = some x ∨ x ∈ tk.map Lst.g) w w' := by
  obtain ⟨aL, nL, cL, rfl⟩ := row_slv2 hBk.row
  have hnL : nL = tk.length := by have := len_slv hBk.row; rw [List.length_map] at this; exact this
  have hS := hide (WhQ.start hBk)
  have hL0 : Hid (LnAt tk (fun j => (tk[j]?.map Lst.n).getD 0) 0 ((tk[0]?.map Lst.n).getD 0)) := hide (fun j x hj => ⟨fun q => by omega, fun q => by subst q; rfl, fun q => by show (tk[j]?.map Lst.n).getD 0 = x.n; rw [hj]; rfl⟩)
  have hnl : nL ≤ 900000 := by omega
  replace hnL := hide hnL
  have hsh : Hid (tk = [] ∨ ∃ gL, aL = some ⟨gL, 0, none⟩) := hide (by
    by_cases e : tk = []
    · exact .inl e
    · obtain ⟨g, h1, _, _⟩ := some_slv hBk.row (by rw [List.length_map]; exact List.length_pos_iff.2 e)
      exact .inr ⟨g, h1⟩)
  clear hBk
  go_enter Try.func12, Try.ntmps12
  go_wp2_with fail
  go_loopw [3] (fun iv wr => ∃ (i m : Nat) (ls : List Value) (ln : Nat → Nat), i ≤ nL ∧ iv = .int .i64 i ∧ Hid (WhQ w wr B bk (.slice aL nL cL) vN s tk ls ln ln) ∧ Hid (LnAt tk ln i m) ∧ Hid (∀ y, tk[i]? = some y → m = y.n)) (fun iv _ => nL - (intOf iv).toNat)
  case atStart => exact ⟨0, _, _, _, Nat.zero_le _, rfl, hS, hL0, hide (fun y hy => by rw [hy]; rfl)⟩
  case round =>
    clear hS hL0
    obtain ⟨i, m0, ls, ln, hil, rfl, HQ, HL, HM⟩ := hrel
    have e0 : wr.cell? ⟨bk, 0, none⟩ = some (.slice aL nL cL) := HQ.out.blk.at' 0
    by_cases hlt : i < nL
    · have p0 : (i : Int) < (nL : Int) := by omega
      have htl : i < tk.length := by rw [← hnL.out]; exact hlt
      obtain ⟨gL, rfl⟩ : ∃ gL, aL = some ⟨gL, 0, none⟩ := hsh.out.resolve_left (fun e => by rw [e] at htl; exact absurd htl (Nat.not_lt_zero _))
      obtain ⟨x, hx⟩ : ∃ x, tk[i]? = some x := ⟨_, List.getElem?_eq_getElem htl⟩
      obtain ⟨y1, y2, y3, y4, _, _, _⟩ := HQ.out.at' i x hx
      rw [(HL.out i x hx).2.1 rfl, HM.out x hx] at y1
      have HL' := HL.out
      rw [HM.out x hx] at HL'
      obtain ⟨xg, xn, xc⟩ := x
      replace y3 : xn ≤ 2000 := y3
      replace y4 : xn ≤ xc := y4
      have hcm : xc ≤ maxLen := y2.2.1
      have hcm' : xc ≤ 9223372036854775807 := hcm
      have hR := room_any xn xc (by omega) hcm
      obtain ⟨R, hRe⟩ : ∃ R, roomN xn xc = R := ⟨_, rfl⟩
      have hRl : R ≤ 72000 := by rw [← hRe]; unfold roomN; split <;> omega
      have hRn : xn ≤ R := by rw [← hRe]; unfold roomN; split <;> omega
      have hRc : R ≤ xc := by rw [← hRe]; unfold roomN; split <;> omega
      rw [hRe] at hR
      have kc := fun d' os => Calls.regrown_of (hR.out (grow (redrawn wr d') os))
      have hcell : wr.cell? ⟨gL, i, none⟩ = some (.slice (some ⟨xg, 0, none⟩) xn xc) := by
        have := World.ownsRow.cells HQ.out.row (g := gL) rfl i _ y1
        rwa [show (⟨gL, 0, none⟩ : Addr).add i = ⟨gL, i, none⟩ by unfold Addr.add; split <;> simp_all] at this
      have f0 := cell_rg e0
      have f1 := cell_rg hcell
      have hx' := hide hx
      have hRe' := hide hRe
      replace HL' := hide HL'
      clear hx hRe hR y1 y2 HL HM
      go_wp2_with fail
      refine wp_region_quiet_below (by kernel_rfl) (by kernel_rfl) ?_
      repeat (go_big_quiet_step (first | (with_reducible exact kc _ _)))
      refine wpQuiet_nil ?_
      intro w2 hw2
      have hb2 : Below wr.heap.size wr w2 := by obtain ⟨⟨dq, osq⟩, hq⟩ := hw2; rw [hq]; exact below_regrown _ dq osq
      have H2 := hide (HQ.out.below hb2)
      clear hw2 hb2 f0 f1 kc hcell e0 HQ
      go_wp2_with fail
      go_loopw [44] (fun nv wr => ∃ (m : Nat) (ls : List Value) (ln : Nat → Nat), xn ≤ m ∧ m ≤ R ∧ wr.cell? ⟨gL, i, none⟩ = some (.slice (some ⟨xg, 0, none⟩) m xc) ∧ Hid (WhQ w wr B bk (.slice (some ⟨gL, 0, none⟩) nL cL) vN s tk ls ln ln) ∧ Hid (LnAt tk ln i m)) (fun _ wr => R - lenOf ((wr.cell? ⟨gL, i, none⟩).getD undef))
      case atStart =>
        obtain ⟨z1, _⟩ := H2.out.at' i _ hx'.out
        rw [(HL'.out i _ hx'.out).2.1 rfl] at z1
        have := World.ownsRow.cells H2.out.row (g := gL) rfl i _ z1
        rw [show (⟨gL, 0, none⟩ : Addr).add i = ⟨gL, i, none⟩ by unfold Addr.add; split <;> simp_all] at this
        exact ⟨xn, ls, ln, Nat.le_refl _, hRn, this, H2, HL'⟩
      case round =>
        clear H2
        obtain ⟨m, ls, ln, hm1, hm2, hcell, HQ, HL⟩ := hrel
        have e0 : wr.cell? ⟨bk, 0, none⟩ = some (.slice (some ⟨gL, 0, none⟩) nL cL) := HQ.out.blk.at' 0
        by_cases hmR : m < R
        · have q0 : (m : Int) < (R : Int) := by omega
          have hcw := hide hcell
          go_wp2_with fail
          go_cut [46] from 45 to 46 (fun c wx => ∃ b, c = .bool b ∧ Hid (Below wr.heap.size wr wx))
          case first =>
            go_region
            all_goals (go_wp2_with fail)
            all_goals go_meet
            all_goals exact ⟨_, rfl, hide (by go_grown)⟩
          case rest =>
          obtain ⟨b, rfl, HB⟩ := hcut
          obtain ⟨w3, rfl⟩ : ∃ w3, w3 = wc := ⟨_, rfl⟩
          have H3 := hide (HQ.out.below HB.out)
          replace e0 : w3.cell? ⟨bk, 0, none⟩ = some (.slice (some ⟨gL, 0, none⟩) nL cL) := H3.out.blk.at' 0
          replace hcell : w3.cell? ⟨gL, i, none⟩ = some (.slice (some ⟨xg, 0, none⟩) m xc) := (World.cell?_of_block (HB.out.block gL (World.block_lt_of_cell? wr ⟨gL, i, none⟩ hcell))).trans hcell
          have hmm : Hid (ln i = m) := hide ((HL.out i _ hx'.out).2.1 rfl)
          have hgL : Hid (gL ≠ xg ∧ gL ≠ bk) := hide (by
            obtain ⟨_, z2, _⟩ := H3.out.at' i _ hx'.out
            refine ⟨fun e => (H3.out.kinds z2).2.1 (by rw [← e]; rfl), fun e => owns_kind H3.out.row H3.out.blk (by decide) (by rw [e]; rfl)⟩)
          have hneg : -9223372036854775808 ≤ -1 - (i : Int) := by omega
          have hneg2 : -1 - (i : Int) ≤ 9223372036854775807 := by omega
          have hqi : Hid (-((i : Int) + 1) = -1 - (i : Int)) := hide (by omega)
          have hgl3 : gL < w3.heap.size := World.block_lt_of_cell? w3 ⟨gL, i, none⟩ hcell
          have hfrL : w3.frozen? ⟨gL, i, none⟩ = false := owns_fr H3.out.row rfl i
          clear HB HQ
          cases b with
          | true =>
            have z2 : LstB w3 xg xc := (H3.out.at' i _ hx'.out).2.1
            have thz : (w3.alloc (.cells (mkC 0 0) 37)).there xg (m * 14) 14 := (z2.same (Below.heap_alloc w3 _ xg z2.lt)).th (by omega)
            have hrz : (w3.alloc (.cells (mkC 0 0) 37)).rangeAt w3.heap.size 0 (mkC 0 0).toList := World.rangeAt_of_block (Blk.new w3 (mkC 0 0) 37) 0 14
            have H4 := hide ((H3.out.below (step (Below.refl _ _) (.cells (mkC 0 0) 37))).put hx'.out (Nat.le_of_eq hmm.out) 0 0)
            have c4 : (putM (w3.alloc (.cells (mkC 0 0) 37)) xg m 0 0).cell? ⟨gL, i, none⟩ = some (.slice (some ⟨xg, 0, none⟩) m xc) := (World.cell?_of_block ((heap_setCells xg _ _ _ gL hgL.out.1).trans (Below.heap_alloc w3 _ gL hgl3))).trans hcell
            have fr4 := owns_fr H4.out.row (g := gL) (k := nL) (cap := cL) rfl i
            go_wp2_with (first
              | (refine Go.Great.wpList_buildSliceTo rfl 30 37 1 _ rfl w3.heap.size rfl _ rfl Try.underlying30 (mkC 0 0) (by kernel_rfl) ?_)
              | (at_builtin; refine wpList_fitM (g := xg) (k := m) (c := xc) (X := w3.heap.size) (q := 0) (op := 0) rfl _ _ rfl rfl rfl hrz thz (by omega) ?_; obtain ⟨w5, hw5⟩ : ∃ w5, putM (w3.alloc (.cells (mkC 0 0) 37)) xg m 0 0 = w5 := ⟨_, rfl⟩; rw [hw5]; rw [hw5] at c4 fr4 H4; have H6 := hide (H4.out.told (m' := m + 1) hx'.out); have th6 := ((H6.out.at' i _ hx'.out).2.1).th (k := m) (by show m < xc; omega); have H7 := hide (H6.out.mark hx'.out hmm.out (by show m < xc; omega)); rw [hqi.out] at H7; clear hw5 hrz thz H6)
              | (refine wpList_putM (g := xg) (k := m) (q := -1 - (i : Int)) (op := 1) rfl _ _ rfl rfl rfl th6 ?_; obtain ⟨w7, hw7⟩ : ∃ w7, putM (w5.setCell ⟨gL, i, none⟩ (.slice (some ⟨xg, 0, none⟩) (m + 1) xc)) xg m (-1 - (i : Int)) 1 = w7 := ⟨_, rfl⟩; rw [hw7]; rw [hw7] at H7))
            have c7 := H7.out.cellAt hx'.out
            rw [updN_same] at c7
            have HL7 := hide (HL.out.up (m + 1))
            exact ⟨⟨m + 1, by omega, by omega, c7, _, _, H7, HL7⟩, by rw [c7, hcw.out]; show R - (m + 1) < R - m; omega⟩
          | false =>
            have z2 : LstB w3 xg xc := (H3.out.at' i _ hx'.out).2.1
            have hdr : Below w3.heap.size w3 w3.drew := (Below.refl _ _).drew
            have hbe := step hdr (.cells (mkC (-1 - (i : Int)) 1) 37)
            have thz : (w3.drew.alloc (.cells (mkC (-1 - (i : Int)) 1) 37)).there xg (m * 14) 14 := (z2.same (hbe.block xg z2.lt)).th (by omega)
            have hrz : (w3.drew.alloc (.cells (mkC (-1 - (i : Int)) 1) 37)).rangeAt w3.heap.size 0 (mkC (-1 - (i : Int)) 1).toList := World.rangeAt_of_block (Blk.new w3.drew (mkC (-1 - (i : Int)) 1) 37) 0 14
            have H4 := hide ((H3.out.below hbe).mark hx'.out hmm.out (by show m < xc; omega))
            rw [hqi.out] at H4
            have c4 : (putM (w3.drew.alloc (.cells (mkC (-1 - (i : Int)) 1) 37)) xg m (-1 - (i : Int)) 1).cell? ⟨gL, i, none⟩ = some (.slice (some ⟨xg, 0, none⟩) m xc) := (World.cell?_of_block ((heap_setCells xg _ _ _ gL hgL.out.1).trans (hbe.block gL hgl3))).trans hcell
            have fr4 := owns_fr H4.out.row (g := gL) (k := nL) (cap := cL) rfl i
            go_wp2_with fail
            have ez : (w3.alloc (.cells #[.int .i64 (-1 - (i : Int)), .int .i64 1, .int .i64 0, .string { data := #[] }, .int .i64 0, .int .i64 0, .bool false, .bool false, .int .i64 0, .int .i64 0, .bool false, .bool false, .int .i64 0, .slice none 0 0] 37)).cell? ⟨bk, 0, none⟩ = some (.slice (some ⟨gL, 0, none⟩) nL cL) := (World.cell?_of_block (Below.heap_alloc w3 _ bk (World.block_lt_of_cell? w3 ⟨bk, 0, none⟩ e0))).trans e0
            have cz : (w3.alloc (.cells #[.int .i64 (-1 - (i : Int)), .int .i64 1, .int .i64 0, .string { data := #[] }, .int .i64 0, .int .i64 0, .bool false, .bool false, .int .i64 0, .int .i64 0, .bool false, .bool false, .int .i64 0, .slice none 0 0] 37)).cell? ⟨gL, i, none⟩ = some (.slice (some ⟨xg, 0, none⟩) m xc) := (World.cell?_of_block (Below.heap_alloc w3 _ gL hgl3)).trans hcell
            have hwr : IntKind.i64.wrap (-1 - (i : Int)) = -1 - (i : Int) := IntWalk.i64_in _ ⟨by omega, by omega⟩
            go_region_law (refine step_fitM (g := xg) (k := m) (c := xc) (X := w3.heap.size) (q := -1 - (i : Int)) (op := 1) (by rfl) _ _ (by rfl) (by rfl) (by rfl) hrz thz (by omega) ?_; generalize hw5 : putM _ xg m (-1 - (i : Int)) 1 = w5; have c5 : w5.cell? ⟨gL, i, none⟩ = some (.slice (some ⟨xg, 0, none⟩) m xc) := (by rw [← hw5]; exact c4); have fr5 : w5.frozen? ⟨gL, i, none⟩ = false := (by rw [← hw5]; exact fr4); have H5 := hide (show WhQ w w5 B bk (.slice (some ⟨gL, 0, none⟩) nL cL) vN s tk ls ln (updN ln i (m + 1)) from by rw [← hw5]; exact H4.out); have e5 : w5.cell? ⟨bk, 0, none⟩ = some (.slice (some ⟨gL, 0, none⟩) nL cL) := H5.out.blk.at' 0; have H7 := hide (H5.out.told (m' := m + 1) hx'.out); obtain ⟨w7, hw7⟩ : ∃ w7, w5.setCell ⟨gL, i, none⟩ (.slice (some ⟨xg, 0, none⟩) (m + 1) xc) = w7 := ⟨_, rfl⟩; clear hw5)
            all_goals (go_wp2_with fail)
            all_goals (try rw [hw7] at H7)
            all_goals (try rw [hw7])
            all_goals (have c7 := H7.out.cellAt hx'.out)
            all_goals (rw [updN_same] at c7)
            all_goals (have HL7 := hide (HL.out.up (m + 1)))
            all_goals exact ⟨⟨m + 1, _, _, by omega, by omega, c7, H7, HL7⟩, by rw [c7, hcw.out]; show R - (m + 1) < R - m; omega⟩
        · obtain rfl : m = R := by omega
          have q0 : ¬ (m : Int) < (m : Int) := by omega
          have HL9 := hide (HL.out.next hx'.out hRe'.out.symm ((tk[i + 1]?.map Lst.n).getD 0) (fun y hy => by rw [hy]; rfl))
          go_wp2_with fail
          exact ⟨⟨i + 1, _, _, _, by omega, rfl, HQ, HL9, hide (fun y hy => by rw [hy]; rfl)⟩, meas_ls hlt⟩
    · obtain rfl : i = nL := by omega
      have p0 : ¬ (i : Int) < (i : Int) := by omega
      obtain ⟨aN, nN, cN, rfl⟩ := row_slv2 HQ.out.num
      have e1 : wr.cell? ⟨bk, 1, none⟩ = some (.slice aN nN cN) := HQ.out.blk.at' 1
      have hnN : Hid (nN = tk.length) := hide (by have := len_sl2 HQ.out.num; rw [List.length_map] at this; exact this)
      obtain ⟨wA, rfl⟩ : ∃ wA, wA = wr := ⟨_, rfl⟩
      have E0 := hide e0
      have E1 := hide e1
      clear HM e0 e1
      have e0 := E0.out
      go_wp2_with fail
      go_loopw [5] (fun iv wr => ∃ (j : Nat), j ≤ i ∧ iv = .int .i64 j ∧ Hid (Below wA.heap.size wA wr)) (fun iv _ => i - (intOf iv).toNat)
      case atStart => exact ⟨0, Nat.zero_le _, rfl, hide (Below.refl _ _)⟩
      case round =>
        clear e0
        obtain ⟨j, hjl, rfl, HB⟩ := hrel
        have e0 := keep9 HB.out E0.out
        by_cases hlt : j < i
        · have q0 : (j : Int) < (i : Int) := by omega
          have htl : j < tk.length := by rw [← hnL.out]; exact hlt
          obtain ⟨gL, rfl⟩ : ∃ gL, aL = some ⟨gL, 0, none⟩ := hsh.out.resolve_left (fun e => by rw [e] at htl; exact absurd htl (Nat.not_lt_zero _))
          obtain ⟨x, hx⟩ : ∃ x, tk[j]? = some x := ⟨_, List.getElem?_eq_getElem htl⟩
          obtain ⟨_, y2, y3, y4, y5, y6, y7⟩ := HQ.out.at' j x hx
          have hlr := (HL.out j x hx).1 hlt
          have CL := hide (HQ.out.cellAt hx)
          have hnx : Hid (∃ gN, aN = some ⟨gN, 0, none⟩ ∧ wA.cell? ⟨gN, j, none⟩ = some (.int .i64 (x.n : Int))) := hide (by
            have hz : 0 < (tk.map fun x => Value.int .i64 (x.n : Int)).length := by rw [List.length_map]; omega
            rcases HQ.out.num.2 with ⟨q, h0⟩ | ⟨g, cap, cur, q, _, hg, _⟩
            · omega
            · cases q
              refine ⟨g, rfl, ?_⟩
              have := World.ownsRow.cells HQ.out.num (g := g) rfl j (.int .i64 (x.n : Int)) (by rw [List.getElem?_map, hx]; rfl)
              rwa [show (⟨g, 0, none⟩ : Addr).add j = ⟨g, j, none⟩ by unfold Addr.add; split <;> simp_all] at this)
          obtain ⟨gN, rfl, CN'⟩ := hnx.out
          have CN := hide CN'
          obtain ⟨xg, xn, xc⟩ := x
          replace y3 : xn ≤ 2000 := y3
          replace y5 : xn ≤ ln j := y5
          have hq : -((j : Int) + 1) = -1 - (j : Int) := by omega
          rw [hq] at y6 y7
          have Y6 := hide y6
          have Y7 := hide y7
          obtain ⟨Lj, hLj⟩ : ∃ Lj, ln j = Lj := ⟨_, rfl⟩
          rw [hLj] at CL y5 Y7
          have hneg : -9223372036854775808 ≤ -1 - (j : Int) := by omega
          have hneg2 : -1 - (j : Int) ≤ 9223372036854775807 := by omega
          have hjN : (j : Int) < (nN : Int) := by have := hnN.out; omega
          have hLjm : Lj ≤ 9223372036854775807 := by
            have h1 : xc ≤ maxLen := y2.2.1
            have h2 : xn ≤ xc := y4
            have h4 : roomN xn xc ≤ xc := by unfold roomN; split <;> omega
            have h3 : Lj ≤ xc := by rw [← hLj, hlr]; exact h4
            exact Nat.le_trans h3 h1
          clear hlr y4 y2 y6 y7 hq hx hnx CN' htl
          have e1 := keep9 HB.out E1.out
          have cl := keep9 HB.out CL.out
          go_wp2_with fail
          clear e1 cl e0
          go_loopw [6] (fun kv wr => ∃ (k : Nat), k ≤ Lj ∧ kv = .int .i64 k ∧ Hid (Below wA.heap.size wA wr)) (fun kv _ => Lj - (intOf kv).toNat)
          case atStart => exact ⟨0, Nat.zero_le _, rfl, HB⟩
          case round =>
            clear HB
            obtain ⟨k, hkl, rfl, HB⟩ := hrel
            have e0 := keep9 HB.out E0.out
            have e1 := keep9 HB.out E1.out
            have cl := keep9 HB.out CL.out
            have cn := keep9 HB.out CN.out
            by_cases hk : k < Lj
            · have k0 : (k : Int) < (Lj : Int) := by omega
              by_cases hkn : k < xn
              · have k1 : ¬ (xn : Int) ≤ (k : Int) := by omega
                have R1 := hide (range_of_block (Y6.out k hkn) (HB.out.block xg (World.block_lt_of_cell? wA ⟨xg, _, none⟩ (Y6.out k hkn 0 _ rfl))))
                have K9 := hide (Blk.new wr (mkC (-1 - (j : Int)) 0) 37)
                have hsn := run_putnew wr (ndK (-1 - (j : Int)) 0) none 0 0
                obtain ⟨t0, t1, t2, t3, t4, t5, t6, t7, t8, t9, t10, t11, t12, t13⟩ := K9.out.c14
                try dsimp only at t0 t1 t3
                have hB9 := hide (step HB.out (exO (ndK (-1 - (j : Int)) 0) (.slice none 0 0)))
                have e1' := keep9 hB9.out E1.out
                have cn' := keep9 hB9.out CN.out
                have wk : Hid (wrap64 ((k : Int) + 1) = (k : Int) + 1) := hide (IntWalk.wrap64_in _ ⟨by omega, by omega⟩)
                go_wp2_with (first
                  | (refine wpList_load_at rfl 37 _ rfl _ _ rfl _ _ (by with_reducible exact R1.out) Try.underlying37 rfl (exC_info _ _) ?_))
                clear e0 e1 cl cn e1' cn' t0 t1 t2 t3 t4 t5 t6 t7 t8 t9 t10 t11 t12 t13 hsn K9 R1
                exact ⟨⟨k + 1, hk, by first | rfl | (rw [wk.out]; rfl), hB9⟩, by first | exact meas_ls hk | (rw [wk.out]; exact meas_ls hk)⟩
              · have k1 : (xn : Int) ≤ (k : Int) := by omega
                have R1 := hide (range_of_block (Y7.out k (by omega) hk) (HB.out.block xg (World.block_lt_of_cell? wA ⟨xg, _, none⟩ (Y7.out k (by omega) hk 0 _ rfl))))
                have K9 := hide (Blk.new wr (mkC (-1 - (j : Int)) 1) 37)
                have hsn := run_putnew wr (ndK (-1 - (j : Int)) 1) none 0 0
                obtain ⟨t0, t1, t2, t3, t4, t5, t6, t7, t8, t9, t10, t11, t12, t13⟩ := K9.out.c14
                try dsimp only at t0 t1 t3
                have hB9 := hide (step HB.out (exO (ndK (-1 - (j : Int)) 1) (.slice none 0 0)))
                have e1' := keep9 hB9.out E1.out
                have cn' := keep9 hB9.out CN.out
                have wk : Hid (wrap64 ((k : Int) + 1) = (k : Int) + 1) := hide (IntWalk.wrap64_in _ ⟨by omega, by omega⟩)
                go_wp2_with (first
                  | (refine wpList_load_at rfl 37 _ rfl _ _ rfl _ _ (by with_reducible exact R1.out) Try.underlying37 rfl (exC_info _ _) ?_))
                clear e0 e1 cl cn e1' cn' t0 t1 t2 t3 t4 t5 t6 t7 t8 t9 t10 t11 t12 t13 hsn K9 R1
                exact ⟨⟨k + 1, hk, by first | rfl | (rw [wk.out]; rfl), hB9⟩, by first | exact meas_ls hk | (rw [wk.out]; exact meas_ls hk)⟩
            · have k0 : ¬ (k : Int) < (Lj : Int) := by omega
              go_wp2_with fail
              exact ⟨⟨j + 1, by omega, rfl, HB⟩, meas_ls hlt⟩
        · obtain rfl : j = i := by omega
          go_wp2_with fail
          go_ret
          exact ⟨rfl, HQ.out.chg.trans (Chg.of_below HB.out)⟩
end Go.Proofs.Ytiajoppbgebnpaa
