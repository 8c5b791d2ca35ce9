/- shift.walk: all references of a tree of one's own are moved where they stand. shift.moved, Paste, Rows, Cols: what they answer of every tree. -/
import Derived.Test.YtiajoppbgebnpaaMn12
import Derived.Test.YtiajoppbgebnpaaLyJ
import Derived.Test.YtiajoppbgebnpaaEq9
namespace Go.Proofs.Ytiajoppbgebnpaa
open Go.RowKit Go.Sort
set_option linter.unusedVariables false

theorem OwL.moveR {w w' : World} {b : Nat} : ∀ (ks : List Ex) {o : Nat} {bs : List Nat}, OwL w b o ks bs → (∀ k ∈ bs, w'.heap[k]? = w.heap[k]?) → (∀ j v, o ≤ j → w.cell? ⟨b, j, none⟩ = some v → w'.cell? ⟨b, j, none⟩ = some v) → OwL w' b o ks bs
  | [], o, bs, h, hm, hc => by unfold OwL at h ⊢; exact h
  | k :: r, o, bs, h, hm, hc => by
    unfold OwL at h ⊢
    obtain ⟨cs, b1, b2, rfl, h1, h2, h3⟩ := h
    exact ⟨cs, b1, b2, rfl, Ow.move k h1 (fun k hk => hm k (List.mem_append_left _ hk)), fun j v hv => hc _ v (by omega) (h2 j v hv), OwL.moveR r h3 (fun k hk => hm k (List.mem_append_right _ hk)) (fun j v hj => hc j v (by omega))⟩
theorem movL_snoc (f : Mv) (ks : List Ex) (k : Nat) (hk : k < ks.length) : movL f (ks.take (k + 1)) = movL f (ks.take k) ++ [movE f ks[k]] := by
  rw [List.take_succ_eq_append_getElem hk, movL_map, movL_map, List.map_append]; rfl
/-- What the walk leaves. -/
structure WkQ (f : Mv) (B o : Nat) (t : Ex) (bs : List Nat) (w w' : World) : Prop where
  at' : ∃ cs bs', Ow w' (.agg cs) (movE f t) bs' ∧ w'.rangeAt B o cs.toList ∧ bs'.Nodup ∧ ∀ x ∈ bs', x ∈ bs
  chg : Chg (fun x => x = B ∨ x ∈ bs) w w'
  oth : ∀ j, j < o ∨ o + 14 ≤ j → w'.cell? ⟨B, j, none⟩ = w.cell? ⟨B, j, none⟩
  row : ∀ cells ty, w.heap[B]? = some (.cells cells ty (0, 0)) → ∃ cells', w'.heap[B]? = some (.cells cells' ty (0, 0)) ∧ cells'.size = cells.size
/-- While the kids are walked. -/
structure WkL (f : Mv) (b cap : Nat) (ks : List Ex) (bs : List Nat) (w1 : World) (k : Nat) (wr : World) : Prop where
  chg : Chg (fun x => x = b ∨ x ∈ bs) w1 wr
  row : ∃ cells, wr.heap[b]? = some (.cells cells 37 (0, 0)) ∧ cells.size = cap * 14
  own : ∃ b1 b2, OwL wr b 0 (movL f (ks.take k)) b1 ∧ OwL wr b (k * 14) (ks.drop k) b2 ∧ (b1 ++ b2).Nodup ∧ ∀ x ∈ b1 ++ b2, x ∈ bs
theorem WkL.get {f : Mv} {b cap : Nat} {ks : List Ex} {bs : List Nat} {w1 : World} {k : Nat} {wr : World} (h : WkL f b cap ks bs w1 k wr) (hb : b ∉ bs) (hk : k < ks.length) :
    ∃ cs c1, Ow wr (.agg cs) ks[k] c1 ∧ wr.rangeAt b (k * 14) cs.toList ∧ c1.Nodup ∧ b ∉ c1 ∧ (∀ x ∈ c1, x ∈ bs) ∧ ∀ w2, WkQ f b (k * 14) ks[k] c1 wr w2 → WkL f b cap ks bs w1 (k + 1) w2 := by
  obtain ⟨b1, b2, o1, o2, nd, mem⟩ := h.own
  rw [List.drop_eq_getElem_cons hk] at o2
  unfold OwL at o2
  obtain ⟨cs, c1, c2, rfl, h1, h2, h3⟩ := o2
  obtain ⟨n1, n2, n3⟩ := List.nodup_append.1 nd
  obtain ⟨m1, m2, m3⟩ := List.nodup_append.1 n2
  have mc1 : ∀ x ∈ c1, x ∈ bs := fun x hx => mem x (List.mem_append_right _ (List.mem_append_left _ hx))
  refine ⟨cs, c1, h1, h2, m1, fun e => hb (mc1 b e), mc1, fun w2 q => ?_⟩
  obtain ⟨cs', bs', p1, p2, p3, p4⟩ := q.at'
  have l1 := OwL.lt _ o1
  have l2 := OwL.lt _ h3
  have k1 : ∀ x ∈ b1, w2.heap[x]? = wr.heap[x]? := fun x hx => q.chg.block x (l1 x hx) (fun e => by
    rcases e with e | e
    · exact hb (by rw [← e]; exact mem x (List.mem_append_left _ hx))
    · exact n3 x hx x (List.mem_append_left _ e) rfl)
  have k2 : ∀ x ∈ c2, w2.heap[x]? = wr.heap[x]? := fun x hx => q.chg.block x (l2 x hx) (fun e => by
    rcases e with e | e
    · exact hb (by rw [← e]; exact mem x (List.mem_append_right _ (List.mem_append_right _ hx)))
    · exact m3 x e x hx rfl)
  have htk : (movL f (ks.take k)).length = k := by rw [movL_len]; simp; omega
  refine ⟨h.chg.trans (q.chg.wide (fun x e => by rcases e with e | e; exact .inl e; exact .inr (mc1 x e))), ?_, b1 ++ bs', c2, ?_, ?_, ?_, ?_⟩
  · obtain ⟨cells, r1, r2⟩ := h.row
    obtain ⟨cells', r3, r4⟩ := q.row _ _ r1
    exact ⟨cells', r3, by rw [r4, r2]⟩
  · rw [movL_snoc f ks k hk]
    refine OwL.snoc _ (o1.move' _ k1 (fun j v hj hv => ?_)) p1 (by rw [htk, Nat.zero_add]; exact p2)
    rw [htk] at hj
    rw [q.oth j (.inl (by omega))]
    exact hv
  · refine OwL.moveR _ ?_ k2 (fun j v hj hv => ?_)
    · rw [show (k + 1) * 14 = k * 14 + 14 by omega]; exact h3
    · rw [q.oth j (.inr (by omega))]
      exact hv
  · refine List.nodup_append.2 ⟨List.nodup_append.2 ⟨n1, p3, fun x hx y hy e => n3 x hx y (List.mem_append_left _ (p4 y hy)) e⟩, m2, fun x hx y hy e => ?_⟩
    rcases List.mem_append.1 hx with hx | hx
    · exact n3 x hx y (List.mem_append_right _ hy) e
    · exact m3 x (p4 x hx) y hy e
  · intro x hx
    rcases List.mem_append.1 hx with hx | hx
    · rcases List.mem_append.1 hx with hx | hx
      · exact mem x (List.mem_append_left _ hx)
      · exact mc1 x (p4 x hx)
    · exact mem x (List.mem_append_right _ (List.mem_append_right _ hx))
abbrev WalkIs (f : Mv) (t : Ex) : Prop := ∀ (w0 : World) (F : Nat) (caps : Array Value) (hmv : MvIs w0 f F caps) (B o : Nat) (w : World) (bs : List Nat) (cs cells : Array Value) (ty : TypeId), Below w0.heap.size w0 w → w0.heap.size ≤ B → (∀ x ∈ bs, w0.heap.size ≤ x) →
  Ow w (.agg cs) t bs → bs.Nodup → B ∉ bs → w.rangeAt B o cs.toList → w.heap[B]? = some (.cells cells ty (0, 0)) → o + 14 ≤ cells.size → allE t = true → nodesE t ≤ 512 →
  Calls Try.prog 41 #[.pointer (some ⟨B, o, none⟩), .func (.func F) #[] caps] w fun e w' => e = .returned (.tuple #[]) ∧ WkQ f B o t bs w w'
def putE (w : World) (B o : Nat) (n : Nd) (s : Value) : World := w.setCells B o (exC n s).toList
theorem wpList_putE {ops : Array Oper} {rest : List Oper} {op : Oper} {a : Act} {w : World} {Q : Exit → Act → World → Prop} {b j : Nat} {n : Nd} {sa : Option Addr} {sl sc : Nat} (hgd : op.guard = none) (x y : Operand) (ho : op.op = .store 37 x y)
    (hx : a.eval x = .pointer (some ⟨b, j, none⟩)) (hy : a.eval y = exV n (.slice sa sl sc)) (ht : w.there b j 14) (h : wpList Try.prog ops Q rest (a.put op.dst undef) (putE w b j n (.slice sa sl sc))) : wpList Try.prog ops Q (op :: rest) a w :=
  wpList_store_mid hgd 37 x y ho b j (exC n (.slice sa sl sc)) hx hy ht (exC_info _ _) (exC_one _ _ _ _) h
/-- Once the node's cells are written. -/
structure PutQ (B o : Nat) (n : Nd) (s : Value) (w w2 : World) : Prop where
  rng : w2.rangeAt B o (exC n s).toList
  chg : Chg (fun x => x = B) w w2
  oth : ∀ j, j < o ∨ o + 14 ≤ j → w2.cell? ⟨B, j, none⟩ = w.cell? ⟨B, j, none⟩
  row : ∀ cells ty, w.heap[B]? = some (.cells cells ty (0, 0)) → ∃ cells', w2.heap[B]? = some (.cells cells' ty (0, 0)) ∧ cells'.size = cells.size
theorem putQ {B o : Nat} {n : Nd} {s : Value} {w w1 : World} {cells : Array Value} {ty : TypeId} (h : w.heap[B]? = some (.cells cells ty (0, 0))) (ho : o + 14 ≤ cells.size) (hb : Below w.heap.size w w1) : w1.there B o 14 ∧ PutQ B o n s w (putE w1 B o n s) := by
  have hB : B < w.heap.size := (Array.getElem?_eq_some_iff.1 h).1
  have h1 : w1.heap[B]? = some (.cells cells ty (0, 0)) := (hb.block B hB).trans h
  have th : w1.there B o 14 := there_of_row h1 ho
  refine ⟨th, ⟨World.rangeAt_setCells_same w1 B o _ (by rw [exC_len]; exact th), (Chg.of_below hb).trans (chg_setCells (m := fun x => x = B) rfl _ _ _), fun j hj => ?_, fun c t hc => ?_⟩⟩
  · unfold putE
    rw [World.cell?_setCells_out B _ _ w1 ⟨B, j, none⟩ (fun _ _ => by rw [exC_len]; exact hj)]
    exact World.cell?_of_block (hb.block B hB)
  · obtain ⟨c', r1, r2⟩ := row_setCells B t (exC n s).toList o w1 c ((hb.block B hB).trans hc)
    exact ⟨c', r1, r2⟩
/-- The node alone. -/
theorem wk_leaf {f : Mv} {B o : Nat} {nd : Nd} {bs bs' : List Nat} {s : Value} {w w2 : World} (q : PutQ B o (movN f nd) s w w2) (ho : Ow w2 (exV (movN f nd) s) (.mk (movN f nd) []) bs') (hn : bs'.Nodup) (hs : ∀ x ∈ bs', x ∈ bs) : WkQ f B o (.mk nd []) bs w w2 :=
  ⟨⟨_, bs', by rw [movE, movL]; exact ho, q.rng, hn, hs⟩, q.chg.wide (fun x e => .inl e), q.oth, q.row⟩
set_option maxHeartbeats 2000000 in
set_option maxRecDepth 100000 in
theorem walk_any (f : Mv) : ∀ t, WalkIs f t := by
  refine Ex.ind fun nd ks ih => ?_
  intro w0 F caps hmv B o w bs cs cells ty hw hB hbs ho hnd hBb hrg hrow hsz hall hn
  obtain ⟨a, len, cap, hv, hl, hc⟩ := ho.un
  obtain rfl : cs = exC nd (.slice a len cap) := by simpa [exV] using hv
  obtain ⟨ht, hkall⟩ := all_mk hall
  rw [← hl] at ht
  have hlt := hide (Ow.lt _ ho)
  have HM := hide (mn_any hmv nd a len cap w hw ht)
  have R0 := hide hrg
  have hP := hide (fun (n : Nd) (s : Value) (w1 : World) => putQ (n := n) (s := s) (w1 := w1) hrow hsz)
  have hBl : B < w.heap.size := (Array.getElem?_eq_some_iff.1 hrow).1
  rcases Nat.eq_zero_or_pos len with h0 | hpos
  · subst h0
    obtain rfl : ks = [] := List.eq_nil_of_length_eq_zero hl.symm
    obtain ⟨a', c', hs', hfin⟩ : ∃ a' c', slM f nd (.slice a 0 cap) = .slice a' 0 c' ∧ ∀ w2, PutQ B o (movN f nd) (.slice a' 0 c') w w2 → WkQ f B o (.mk nd []) bs w w2 := by
      cases hg : gridB (putN f nd)
      · rw [(slM_no (s := .slice a 0 cap) hg).1]
        exact ⟨none, 0, rfl, fun w2 q => wk_leaf q (by unfold Ow; exact ⟨_, _, _, rfl, rfl, .inl ⟨rfl, rfl, rfl, rfl⟩⟩) List.nodup_nil (fun x hx => by cases hx)⟩
      · rw [(slM_yes (s := .slice a 0 cap) hg).1]
        refine ⟨a, cap, rfl, fun w2 q => wk_leaf (bs' := bs) q ?_ hnd (fun x hx => hx)⟩
        unfold Ow
        refine ⟨_, _, _, rfl, rfl, ?_⟩
        rcases hc with h | ⟨b, cl, bs', h1, h2, h3, h4, h5, h6⟩
        · exact .inl h
        · refine .inr ⟨b, cl, bs', h1, h2, ?_, h4, h5, by unfold OwL at h6 ⊢; exact h6⟩
          have hbB : b ≠ B := fun e => hBb (by rw [h2, e]; exact List.mem_cons_self ..)
          exact (q.chg.block b (Array.getElem?_eq_some_iff.1 h3).1 hbB).trans h3
    rw [hs'] at HM
    replace hfin := hide hfin
    clear hs' hc hmv ih hw hB hbs ho hnd hBb hrow hsz hall hn ht hkall hl hv hrg
    go_enter Try.func41, Try.ntmps41
    go_wp2_with (first
      | (refine wpList_load_at rfl 37 _ rfl _ _ rfl _ _ (by with_reducible exact R0.out) Try.underlying37 rfl (exC_info _ _) ?_)
      | (go_at_call 53; refine HM.out.mono ?_; rintro e w1 ⟨rfl, hb⟩; obtain ⟨th, q⟩ := hP.out (movN f nd) (.slice a' 0 c') w1 hb; replace th := hide th; replace q := hide q; clear hb)
      | (refine wpList_putE (b := B) (j := o) (n := movN f nd) (sa := a') (sl := 0) (sc := c') rfl _ _ rfl rfl rfl (by with_reducible exact th.out) ?_; obtain ⟨w2, hw2⟩ : ∃ w2, w2 = putE w1 B o (movN f nd) (.slice a' 0 c') := ⟨_, rfl⟩; rw [← hw2] at q ⊢; clear hw2 th; obtain ⟨-, -, -, -, -, -, -, -, -, -, -, -, -, z13⟩ := range14 q.out.rng))
    refine wp_loop_rounds 1 ?_
    rw [rounds_succ]
    go_wp2_with fail
    refine Go.Great.bodyPost_end0 rfl rfl ?_
    exact ⟨rfl, hfin.out _ q.out⟩
  · have h5 : nd.kind ≠ 5 := fun e => by have := (shape5 ht e).2.2; omega
    have h6 : nd.kind ≠ 6 := fun e => by have := (shape6 ht e).2.2.2; omega
    have hmn : movN f nd = nd := movN_other f ht h5 h6
    have hsl : slM f nd (.slice a len cap) = .slice a len cap := by
      obtain ⟨e1, e2⟩ := told_zero ht h5 h6
      refine (slM_yes ?_).1
      unfold putN gridB
      rw [if_neg h5, if_neg h6, e1, e2]
      rfl
    rw [hmn, hsl] at HM
    rcases hc with ⟨_, h0, _⟩ | ⟨b, cl, bs', rfl, rfl, hcl, hcz, hcap, hkid⟩
    · exfalso; omega
    have hbB : b ≠ B := fun e => hBb (by rw [e]; exact List.mem_cons_self ..)
    have hBb' : B ∉ bs' := fun e => hBb (List.mem_cons_of_mem _ e)
    obtain ⟨n1, n2⟩ := List.nodup_cons.1 hnd
    have hle : Hid (len ≤ 511) := hide (by have := len_nodes ks; rw [nodesE] at hn; omega)
    have hnk : Hid (∀ k ∈ ks, nodesE k ≤ 512) := hide (fun k hk => by have := nodes_mem hk; rw [nodesE] at hn; omega)
    have hka : Hid (∀ k ∈ ks, allE k = true) := hide (fun k hk => all_kid hkall hk)
    have hst : Hid (∀ w2, PutQ B o nd (.slice (some ⟨b, 0, none⟩) len cap) w w2 → WkL f b cap ks bs' w2 0 w2) := hide (fun w2 q => by
      have hsame : ∀ x ∈ b :: bs', w2.heap[x]? = w.heap[x]? := fun x hx => q.chg.block x (hlt.out x hx) (fun e => hBb (by rw [← e]; exact hx))
      refine ⟨Chg.refl _ _, ⟨cl, (hsame b (List.mem_cons_self ..)).trans hcl, hcz⟩, [], bs', ?_, ?_, by simpa using n2, fun x hx => by simpa using hx⟩
      · rw [List.take_zero, movL]; unfold OwL; rfl
      · rw [List.drop_zero, Nat.zero_mul]
        exact OwL.move ks hkid (fun x hx => hsame x (List.mem_cons_of_mem _ hx)) (fun j => World.cell?_of_block (hsame b (List.mem_cons_self ..))))
    have hend : Hid (∀ w2 wr, PutQ B o nd (.slice (some ⟨b, 0, none⟩) len cap) w w2 → WkL f b cap ks bs' w2 len wr → WkQ f B o (.mk nd ks) (b :: bs') w wr) := hide (fun w2 wr q HL => by
      have hBw : B < w2.heap.size := Nat.lt_of_lt_of_le hBl q.chg.size
      have hBs : wr.heap[B]? = w2.heap[B]? := HL.chg.block B hBw (fun e => by rcases e with e | e; exact hbB e.symm; exact hBb' e)
      obtain ⟨b1, b2, o1, o2, nn, mm⟩ := HL.own
      obtain ⟨cl', r1, r2⟩ := HL.row
      rw [List.take_of_length_le (by omega)] at o1
      refine ⟨⟨exC nd (.slice (some ⟨b, 0, none⟩) len cap), b :: b1, ?_, range_of_block q.rng hBs, List.nodup_cons.2 ⟨fun e => n1 (mm b (List.mem_append_left _ e)), (List.nodup_append.1 nn).1⟩, fun x hx => ?_⟩, ?_, fun j hj => (World.cell?_of_block hBs).trans (q.oth j hj), fun c t h => ?_⟩
      · rw [movE, hmn]
        unfold Ow
        exact ⟨_, _, _, rfl, by rw [movL_len]; exact hl, .inr ⟨b, cl', b1, rfl, rfl, r1, r2, hcap, o1⟩⟩
      · rcases List.mem_cons.1 hx with rfl | hx
        · exact List.mem_cons_self ..
        · exact List.mem_cons_of_mem _ (mm x (List.mem_append_left _ hx))
      · exact (q.chg.wide (fun x e => .inl e)).trans (HL.chg.wide (fun x e => .inr (by rcases e with e | e; exact (by rw [e]; exact List.mem_cons_self ..); exact List.mem_cons_of_mem _ e)))
      · obtain ⟨c1, r3, r4⟩ := q.row c t h
        exact ⟨c1, hBs.trans r3, r4⟩)
    have hwB : Hid (∀ w2 wr k, PutQ B o nd (.slice (some ⟨b, 0, none⟩) len cap) w w2 → WkL f b cap ks bs' w2 k wr → Below w0.heap.size w0 wr ∧ wr.cell? ⟨B, o + 13, none⟩ = some (.slice (some ⟨b, 0, none⟩) len cap)) := hide (fun w2 wr k q HL => by
      have hBw : B < w2.heap.size := Nat.lt_of_lt_of_le hBl q.chg.size
      have hBs : wr.heap[B]? = w2.heap[B]? := HL.chg.block B hBw (fun e => by rcases e with e | e; exact hbB e.symm; exact hBb' e)
      have h2 : Below w0.heap.size w w2 := q.chg.below hw.size (fun k e => by rw [e]; exact hB)
      have h3 : Below w0.heap.size w2 wr := HL.chg.below (Nat.le_trans hw.size q.chg.size) (fun k e => by rcases e with e | e; exact (by rw [e]; exact hbs b (List.mem_cons_self ..)); exact hbs k (List.mem_cons_of_mem _ e))
      obtain ⟨-, -, -, -, -, -, -, -, -, -, -, -, -, z13⟩ := range14 q.rng
      exact ⟨hw.trans (h2.trans h3), (World.cell?_of_block hBs).trans z13⟩)
    have hgeB : Hid (w0.heap.size ≤ b) := hide (hbs b (List.mem_cons_self ..))
    have hgeS : Hid (∀ x ∈ bs', w0.heap.size ≤ x) := hide (fun x hx => hbs x (List.mem_cons_of_mem _ hx))
    have hlen := hide hl
    have hn1 := hide n1
    replace ih := hide ih
    replace hmv := hide hmv
    have hcap' := hide hcap
    clear hmn hsl hBb' hbB n1 n2 hkid hcl hcz hw hB hbs ho hnd hBb hrow hsz hall hn ht hkall hl hv hrg h5 h6 hcap
    go_enter Try.func41, Try.ntmps41
    go_wp2_with (first
      | (refine wpList_load_at rfl 37 _ rfl _ _ rfl _ _ (by with_reducible exact R0.out) Try.underlying37 rfl (exC_info _ _) ?_)
      | (go_at_call 53; refine HM.out.mono ?_; rintro e w1 ⟨rfl, hb⟩; obtain ⟨th, q⟩ := hP.out nd (.slice (some ⟨b, 0, none⟩) len cap) w1 hb; replace th := hide th; replace q := hide q; clear hb)
      | (refine wpList_putE (b := B) (j := o) (n := nd) (sa := some ⟨b, 0, none⟩) (sl := len) (sc := cap) rfl _ _ rfl rfl rfl (by with_reducible exact th.out) ?_; obtain ⟨w2, hw2⟩ : ∃ w2, w2 = putE w1 B o nd (.slice (some ⟨b, 0, none⟩) len cap) := ⟨_, rfl⟩; rw [← hw2] at q ⊢; clear hw2 th; obtain ⟨-, -, -, -, -, -, -, -, -, -, -, -, -, y13⟩ := range14 q.out.rng))
    clear y13
    go_loopw [17] (fun i wr => ∃ (k : Nat), k ≤ len ∧ i = .int .i64 k ∧ Hid (WkL f b cap ks bs' w2 k wr)) (fun i _ => len - (intOf i).toNat)
    case atStart => exact ⟨0, Nat.zero_le _, rfl, hst.out _ q.out⟩
    case round =>
      obtain ⟨k, hkl, rfl, HC⟩ := hrel
      obtain ⟨hBw, z13⟩ := hwB.out _ _ _ q.out HC.out
      by_cases hlt' : k < len
      · have p0 : (k : Int) < (len : Int) := by omega
        have hk1 : k < ks.length := by have := hlen.out; omega
        obtain ⟨cs, c1, x1, x2, x3, x4, x5, x6⟩ := HC.out.get hn1.out hk1
        obtain ⟨cl', r1, r2⟩ := HC.out.row
        have IH := hide (ih.out _ (List.getElem_mem hk1) w0 F caps hmv.out b (k * 14) wr c1 cs cl' _ hBw hgeB.out (fun x hx => hgeS.out x (x5 x hx)) x1 x3 x4 x2 r1 (by rw [r2]; have := hcap'.out; omega) (hka.out _ (List.getElem_mem hk1)) (hnk.out _ (List.getElem_mem hk1)))
        replace x6 := hide x6
        have wk := IntWalk.wrap64_in ((k : Int) + 1) ⟨by omega, by have := hle.out; omega⟩
        generalize ks[k] = tk' at *
        clear x1 x2 x3 x4 x5 r1 r2 hBw
        go_wp2_with (first
          | (go_at_call 41; refine IH.out.mono ?_; rintro e w3 ⟨rfl, hq⟩; have HN := hide (x6.out _ hq); clear hq))
        refine ⟨⟨k + 1, hlt', by rw [wk]; rfl, HN⟩, ?_⟩
        rw [wk]
        exact meas_lt hlt'
      · obtain rfl : k = len := by omega
        go_wp2_with fail
        refine Go.Great.bodyPost_end0 rfl rfl ?_
        exact ⟨rfl, hend.out _ _ q.out HC.out⟩
end Go.Proofs.Ytiajoppbgebnpaa
namespace Go.Proofs.Ytiajoppbgebnpaa
open Go.RowKit Go.Sort
set_option linter.unusedVariables false

/-- A tree of one's own is answered. -/
def NewP (w : World) (t : Ex) (e : Ending) (w' : World) : Prop := ∃ a len cap bs, e = .returned (exV t.nd (.slice a len cap)) ∧ New w w' (exV t.nd (.slice a len cap)) t bs ∧ Below w.heap.size w w'
set_option maxHeartbeats 2000000 in
set_option maxRecDepth 100000 in
theorem moved_any {f : Mv} {F : Nat} {caps : Array Value} (t : Ex) (v : Value) (w : World) (hmv : MvIs w f F caps) (ht : Tree w v t) (hm : mayR t = 0) : Calls Try.prog 27 #[v, .func (.func F) #[] caps] w fun e w' => NewP w (movE f t) e w' := by
  obtain ⟨hf, hall⟩ := may_parts hm
  have hn : nodesE t ≤ 512 := (of_decide_eq_true hf).1
  obtain ⟨a0, len0, cap0, rfl, -, -, -, -⟩ := ht.open
  have P1 := hide (Blk.new1 w (exO t.nd (.slice a0 len0 cap0)) (exC nd0 (.slice none 0 0)) 37)
  have P0 := hide ((Blk.new w (exC t.nd (.slice a0 len0 cap0)) 37).alloc (exO nd0 (.slice none 0 0)))
  have B2 := hide (step (step (Below.refl w.heap.size w) (exO t.nd (.slice a0 len0 cap0))) (exO nd0 (.slice none 0 0)))
  have S2 : Hid (((w.alloc (exO t.nd (.slice a0 len0 cap0))).alloc (exO nd0 (.slice none 0 0))).heap.size = w.heap.size + 1 + 1) := hide (by simp)
  have HC : Hid (Calls Try.prog 40 #[exV t.nd (.slice a0 len0 cap0)] ((w.alloc (exO t.nd (.slice a0 len0 cap0))).alloc (exO nd0 (.slice none 0 0))) fun e w' => ∃ a len cap bs, e = .returned (.tuple #[exV t.nd (.slice a len cap), .int .i64 0]) ∧ New ((w.alloc (exO t.nd (.slice a0 len0 cap0))).alloc (exO nd0 (.slice none 0 0))) w' (exV t.nd (.slice a len cap)) t bs ∧ Below ((w.alloc (exO t.nd (.slice a0 len0 cap0))).alloc (exO nd0 (.slice none 0 0))).heap.size ((w.alloc (exO t.nd (.slice a0 len0 cap0))).alloc (exO nd0 (.slice none 0 0))) w') :=
    hide ((copy_any t _ _ (ht.step B2.out)).mono (by
      intro e w' h
      rcases h with ⟨h, _⟩ | ⟨_, h⟩
      · rw [hf] at h; cases h
      · exact h))
  have HW : Hid (∀ w1 a len cap bs, New ((w.alloc (exO t.nd (.slice a0 len0 cap0))).alloc (exO nd0 (.slice none 0 0))) w1 (exV t.nd (.slice a len cap)) t bs → Below ((w.alloc (exO t.nd (.slice a0 len0 cap0))).alloc (exO nd0 (.slice none 0 0))).heap.size ((w.alloc (exO t.nd (.slice a0 len0 cap0))).alloc (exO nd0 (.slice none 0 0))) w1 →
      Calls Try.prog 41 #[.pointer (some ⟨w1.heap.size, 0, none⟩), .func (.func F) #[] caps] (w1.alloc (exO t.nd (.slice a len cap))) fun e w' => e = .returned (.tuple #[]) ∧ WkQ f w1.heap.size 0 t bs (w1.alloc (exO t.nd (.slice a len cap))) w') := hide (fun w1 a len cap bs hN hb => by
    have hs := hb.size
    rw [S2.out] at hs
    refine walk_any f t w F caps hmv w1.heap.size 0 _ bs (exC t.nd (.slice a len cap)) (exC t.nd (.slice a len cap)) 37 (step (next B2.out hb) _) (by omega) (fun x hx => ?_) (hN.ow.move _ (fun x hx => Below.heap_alloc w1 _ x (hN.at' x hx).2)) hN.nd (fun hx => Nat.lt_irrefl _ (hN.at' _ hx).2) (range_ex w1 t.nd _) (Blk.new w1 _ _) (by rw [exC_size]; exact Nat.le_refl _) hall hn
    have := (hN.at' x hx).1
    rw [S2.out] at this
    omega)
  have HF : Hid (∀ w1 a len cap bs w3, New ((w.alloc (exO t.nd (.slice a0 len0 cap0))).alloc (exO nd0 (.slice none 0 0))) w1 (exV t.nd (.slice a len cap)) t bs → Below ((w.alloc (exO t.nd (.slice a0 len0 cap0))).alloc (exO nd0 (.slice none 0 0))).heap.size ((w.alloc (exO t.nd (.slice a0 len0 cap0))).alloc (exO nd0 (.slice none 0 0))) w1 → WkQ f w1.heap.size 0 t bs (w1.alloc (exO t.nd (.slice a len cap))) w3 →
      ∃ a' len' cap' bs', w3.rangeAt w1.heap.size 0 (exC (movE f t).nd (.slice a' len' cap')).toList ∧ Blk w3 (w.heap.size + 1) (exC nd0 (.slice none 0 0)) 37 ∧ New w (w3.setRow (w.heap.size + 1) (exC (movE f t).nd (.slice a' len' cap'))) (exV (movE f t).nd (.slice a' len' cap')) (movE f t) bs' ∧ Below w.heap.size w (w3.setRow (w.heap.size + 1) (exC (movE f t).nd (.slice a' len' cap')))) := hide (fun w1 a len cap bs w3 hN hb q => by
    obtain ⟨cs, bs', h1, h2, h3, h4⟩ := q.at'
    obtain ⟨a', len', cap', rfl⟩ := h1.cs
    have hs := hb.size
    rw [S2.out] at hs
    have hge : ∀ x ∈ bs, w.heap.size + 1 + 1 ≤ x ∧ x < w1.heap.size := fun x hx => by have := hN.at' x hx; rw [S2.out] at this; exact this
    have hal : (w1.alloc (exO t.nd (.slice a len cap))).heap.size = w1.heap.size + 1 := by simp
    have hq := q.chg.size
    have h5 : Blk w3 (w.heap.size + 1) (exC nd0 (.slice none 0 0)) 37 := q.chg.blk ((P1.out.keep hb).alloc _) (fun e => by
      rcases e with e | e
      · omega
      · have := (hge _ e).1; omega)
    have h6 : Below w.heap.size w w3 := (step (next B2.out hb) (exO t.nd (.slice a len cap))).trans (q.chg.below (by omega) (fun k e => by
      rcases e with e | e
      · omega
      · have := (hge _ e).1; omega))
    refine ⟨a', len', cap', bs', h2, h5, ⟨h1.move _ (fun x hx => setRow_other _ _ _ _ (by have := (hge x (h4 x hx)).1; omega)), h3, fun x hx => ?_⟩, below_setRow h6 (by omega) _⟩
    rw [size_setRow]
    have := hge x (h4 x hx)
    omega)
  clear ht hm hf hall hn hmv
  go_enter Try.func27, Try.ntmps27
  go_wp2_with (first
    | (refine wpList_load_blk rfl 37 _ rfl _ rfl _ P0.out _ Try.underlying37 rfl (exC_info _ _) ?_)
    | (refine wpList_load_at rfl 37 _ rfl _ _ rfl _ _ (by with_reducible exact R3.out) Try.underlying37 rfl (exC_info _ _) ?_)
    | (refine wpList_store_row rfl 37 _ _ rfl _ (exC (movE f t).nd (.slice a' len' cap')) rfl rfl 37 _ F1.out (exC_info _ _) (by rfl) (exC_one _ _ _ _) ?_)
    | (go_at_call 40; refine HC.out.mono ?_; rintro e w1 ⟨a, len, cap, bs, rfl, hN, hb⟩; replace HW := hide (HW.out w1 a len cap bs hN hb); replace HF := hide (fun w3 => HF.out w1 a len cap bs w3 hN hb); have hsn := run_putnew w1 t.nd a len cap; clear hN hb)
    | (go_at_call 41; refine HW.out.mono ?_; rintro e w3 ⟨rfl, hq⟩; obtain ⟨a', len', cap', bs', R3, F1, F2, F3⟩ := HF.out w3 hq; replace R3 := hide R3; replace F1 := hide F1; replace F2 := hide F2; replace F3 := hide F3; clear hq HF))
  refine bodyPost_ret (v := exV (movE f t).nd (.slice a' len' cap')) (results_cell_row Try.results27 _ _ (w.heap.size + 1) 37 (exC (movE f t).nd (.slice a' len' cap')) (0, 0) _ rfl (F1.out.setRow) Try.underlying37 rfl (exC_info _ _)) rfl ?_
  exact ⟨_, _, _, _, rfl, F2.out, F3.out⟩
/-- What Paste, Rows and Cols answer: an error, or a tree of one's own. -/
def ShP (w : World) (er : Int) (t : Ex) (e : Ending) (w' : World) : Prop :=
  (er ≠ 0 ∧ e = .returned (.tuple #[exV nd0 (.slice none 0 0), .int .i64 er]) ∧ Below w.heap.size w w') ∨
  (er = 0 ∧ ∃ a len cap bs, e = .returned (.tuple #[exV t.nd (.slice a len cap), .int .i64 0]) ∧ New w w' (exV t.nd (.slice a len cap)) t bs ∧ Below w.heap.size w w')
def spotR (t : Ex) (r c : Int) : Int := if mayR t = 0 then (if mayB r c then 0 else 1) else mayR t
theorem iC (d : Int) : Array.size #[Value.int .i64 d] = 1 := rfl
/-- How the answer is put together. -/
theorem sh_fin {w wA w1 w2 : World} {er : Int} {t : Ex} {nd : Nd} {s : Value} (hA : Below w.heap.size w wA) (hAs : wA.heap.size = w.heap.size + 4) (P : Blk wA (w.heap.size + 1 + 1 + 1) (exC nd0 (.slice none 0 0)) 37) (h1 : Below wA.heap.size wA w1) {a : Option Addr} {len cap : Nat} {bs : List Nat} (hN : New w1 w2 (exV t.nd (.slice a len cap)) t bs) (h2 : Below w1.heap.size w1 w2) :
    Blk w2 (w.heap.size + 1 + 1 + 1) (exC nd0 (.slice none 0 0)) 37 ∧ New w (w2.setRow (w.heap.size + 1 + 1 + 1) (exC t.nd (.slice a len cap))) (exV t.nd (.slice a len cap)) t bs ∧ Below w.heap.size w (w2.setRow (w.heap.size + 1 + 1 + 1) (exC t.nd (.slice a len cap))) := by
  have hs1 := h1.size
  have hs2 := h2.size
  refine ⟨(P.keep h1).keep h2, ⟨hN.ow.move _ (fun x hx => setRow_other _ _ _ _ (by have := (hN.at' x hx).1; omega)), hN.nd, fun x hx => by rw [size_setRow]; have := hN.at' x hx; omega⟩, below_setRow (next (next hA h1) h2) (by omega) _⟩
set_option maxHeartbeats 2000000 in
set_option maxRecDepth 100000 in
theorem mayChange_any (t : Ex) (v : Value) (r c : Int) (w : World) (ht : Tree w v t) : Calls Try.prog 30 #[v, spotV r c] w fun e w' => e = .returned (.int .i64 (spotR t r c)) ∧ Below w.heap.size w w' := by
  obtain ⟨a, len, cap, rfl, -, -, -, -⟩ := ht.open
  have P0 := hide ((Blk.new w (exC t.nd (.slice a len cap)) 37).alloc (.cells #[.int .i64 r, .int .i64 c] 61))
  have P1 := hide (Blk.new1 w (exO t.nd (.slice a len cap)) #[.int .i64 r, .int .i64 c] 61)
  have B2 := hide (step (step (Below.refl w.heap.size w) (exO t.nd (.slice a len cap))) (.cells #[.int .i64 r, .int .i64 c] 61))
  have HM := hide (may_any t _ _ (ht.step B2.out))
  have HS := hide (spotMay_any r c)
  unfold spotR
  clear ht
  by_cases hm : mayR t = 0
  · rw [if_pos hm]
    rw [hm] at HM
    cases hq : mayB r c
    all_goals
      rw [hq] at HS
      go_enter Try.func30, Try.ntmps30
      go_wp2_with (first
        | (refine wpList_load_blk rfl 37 _ rfl _ rfl _ P0.out _ Try.underlying37 rfl (exC_info _ _) ?_)
        | (go_at_call 26; refine HM.out.mono ?_; rintro e w1 ⟨rfl, hb⟩; have b1 := hide (next B2.out hb); have q0 := (P1.out.keep hb).at' 0; have q1 := (P1.out.keep hb).at' 1; simp at q0 q1; clear hb)
        | (go_at_call 42; refine (HS.out _).mono ?_; rintro e w2 ⟨rfl, hb⟩; have b2 := hide (next b1.out hb); clear hb))
      go_ret
      exact ⟨rfl, b2.out⟩
  · rw [if_neg hm]
    have hne : (mayR t != 0) = true := by simp [hm]
    have hne' : (mayR t == 0) = false := by simp [hm]
    generalize mayR t = m at *
    go_enter Try.func30, Try.ntmps30
    go_wp2_with (first
      | (refine wpList_load_blk rfl 37 _ rfl _ rfl _ P0.out _ Try.underlying37 rfl (exC_info _ _) ?_)
      | (go_at_call 26; refine HM.out.mono ?_; rintro e w1 ⟨rfl, hb⟩; have b1 := hide (next B2.out hb); clear hb))
    go_ret
    exact ⟨rfl, b1.out⟩
set_option maxHeartbeats 2000000 in
set_option maxRecDepth 100000 in
theorem paste_any (t : Ex) (v : Value) (x y : Int) (w : World) (ht : Tree w v t) : Calls Try.prog 14 #[v, .int .i64 x, .int .i64 y] w fun e w' => ShP w (mayR t) (movE (pasR x y) t) e w' := by
  obtain ⟨a0, len0, cap0, rfl, -, -, -, -⟩ := ht.open
  have B4 := hide (step (step (step (step (Below.refl w.heap.size w) (exO t.nd (.slice a0 len0 cap0))) (.cells #[.int .i64 x] 2)) (.cells #[.int .i64 y] 2)) (exO nd0 (.slice none 0 0)))
  have S4 : Hid (((((w.alloc (exO t.nd (.slice a0 len0 cap0))).alloc (.cells #[.int .i64 x] 2)).alloc (.cells #[.int .i64 y] 2)).alloc (exO nd0 (.slice none 0 0))).heap.size = w.heap.size + 4) := hide (by simp)
  have P0 := hide ((((Blk.new w (exC t.nd (.slice a0 len0 cap0)) 37).alloc (.cells #[.int .i64 x] 2)).alloc (.cells #[.int .i64 y] 2)).alloc (exO nd0 (.slice none 0 0)))
  have P1 : Hid (Blk ((((w.alloc (exO t.nd (.slice a0 len0 cap0))).alloc (.cells #[.int .i64 x] 2)).alloc (.cells #[.int .i64 y] 2)).alloc (exO nd0 (.slice none 0 0))) (w.heap.size + 1) #[.int .i64 x] 2) := hide (((Blk.new1 w (exO t.nd (.slice a0 len0 cap0)) #[.int .i64 x] 2).alloc (.cells #[.int .i64 y] 2)).alloc (exO nd0 (.slice none 0 0)))
  have P2 : Hid (Blk ((((w.alloc (exO t.nd (.slice a0 len0 cap0))).alloc (.cells #[.int .i64 x] 2)).alloc (.cells #[.int .i64 y] 2)).alloc (exO nd0 (.slice none 0 0))) (w.heap.size + 1 + 1) #[.int .i64 y] 2) := hide ((Blk.new2 w (exO t.nd (.slice a0 len0 cap0)) (.cells #[.int .i64 x] 2) #[.int .i64 y] 2).alloc (exO nd0 (.slice none 0 0)))
  have P3 : Hid (Blk ((((w.alloc (exO t.nd (.slice a0 len0 cap0))).alloc (.cells #[.int .i64 x] 2)).alloc (.cells #[.int .i64 y] 2)).alloc (exO nd0 (.slice none 0 0))) (w.heap.size + 1 + 1 + 1) (exC nd0 (.slice none 0 0)) 37) := hide (Blk.new3 w (exO t.nd (.slice a0 len0 cap0)) (.cells #[.int .i64 x] 2) (.cells #[.int .i64 y] 2) (exC nd0 (.slice none 0 0)) 37)
  have HM := hide (may_any t _ _ (ht.step B4.out))
  have c1 := P1.out.one
  have c2 := P2.out.one
  by_cases hm : mayR t = 0
  · rw [hm] at HM ⊢
    have hm0 : mayR t = 0 := hm
    have HV : Hid (∀ w1, Below ((((w.alloc (exO t.nd (.slice a0 len0 cap0))).alloc (.cells #[.int .i64 x] 2)).alloc (.cells #[.int .i64 y] 2)).alloc (exO nd0 (.slice none 0 0))).heap.size ((((w.alloc (exO t.nd (.slice a0 len0 cap0))).alloc (.cells #[.int .i64 x] 2)).alloc (.cells #[.int .i64 y] 2)).alloc (exO nd0 (.slice none 0 0))) w1 → Calls Try.prog 27 #[exV t.nd (.slice a0 len0 cap0), .func (.func 28) #[] #[.pointer (some ⟨w.heap.size + 1, 0, none⟩), .pointer (some ⟨w.heap.size + 1 + 1, 0, none⟩)]] w1 fun e w' => NewP w1 (movE (pasR x y) t) e w') := hide (fun w1 hb => moved_any t _ w1 (paste_mv (w0 := w1) (B1 := w.heap.size + 1) (B2 := w.heap.size + 1 + 1) (P1.out.keep hb) (P2.out.keep hb)) (ht.step (next B4.out hb)) hm0)
    have HF := hide (fun w1 w2 a len cap bs => sh_fin (t := movE (pasR x y) t) (er := 0) (nd := nd0) (s := .slice none 0 0) (w1 := w1) (w2 := w2) (a := a) (len := len) (cap := cap) (bs := bs) B4.out S4.out P3.out)
    clear ht hm hm0
    generalize movE (pasR x y) t = u at *
    go_enter Try.func14, Try.ntmps14
    go_wp2_with (first
      | (refine wpList_load_blk rfl 37 _ rfl _ rfl _ P0.out _ Try.underlying37 rfl (exC_info _ _) ?_)
      | (refine wpList_load_blk rfl 37 _ rfl _ rfl _ (by with_reducible exact Q0.out) _ Try.underlying37 rfl (exC_info _ _) ?_)
      | (refine wpList_store_row rfl 37 _ _ rfl _ (exC u.nd (.slice a len cap)) rfl rfl 37 _ F1.out (exC_info _ _) (by rfl) (exC_one _ _ _ _) ?_)
      | (go_at_call 26; refine HM.out.mono ?_; rintro e w1 ⟨rfl, hb⟩; have Q0 := hide (P0.out.keep hb); replace HV := hide (HV.out w1 hb); replace HF := hide (fun w2 a len cap bs => HF.out w1 w2 a len cap bs hb); clear hb)
      | (go_at_call 27; refine HV.out.mono ?_; rintro e w2 ⟨a, len, cap, bs, rfl, hN, hb⟩; obtain ⟨F1, F2, F3⟩ := HF.out w2 a len cap bs hN hb; replace F1 := hide F1; replace F2 := hide F2; replace F3 := hide F3; clear hN hb HF))
    have hrl := run_blk (F1.out.setRow (cs := exC u.nd (.slice a len cap))) rfl
    refine bodyPost_ret (v := .tuple #[exV u.nd (.slice a len cap), .int .i64 0]) (by simp [results, Try.results14, asAddr, hrl]; try rfl) rfl ?_
    exact .inr ⟨rfl, _, _, _, _, rfl, F2.out, F3.out⟩
  · have hne : (mayR t != 0) = true := by simp [hm]
    have hne' : (mayR t == 0) = false := by simp [hm]
    have hm' := hide hm
    clear hm ht
    generalize mayR t = m at *
    go_enter Try.func14, Try.ntmps14
    go_wp2_with (first
      | (refine wpList_load_blk rfl 37 _ rfl _ rfl _ P0.out _ Try.underlying37 rfl (exC_info _ _) ?_)
      | (go_at_call 26; refine HM.out.mono ?_; rintro e w1 ⟨rfl, hb⟩; have N1 := hide (P3.out.keep hb); have b1 := hide (next B4.out hb); clear hb)
      | (have hn1 := N1.out; refine wpList_store_row rfl 37 _ _ rfl _ (exC nd0 (.slice none 0 0)) rfl rfl 37 _ hn1 (exC_info nd0 (.slice none 0 0)) (by rfl) (exC_one nd0 none 0 0) ?_))
    have hrl := run_blk (N1.out.setRow (cs := exC nd0 (.slice none 0 0))) rfl
    refine bodyPost_ret (v := .tuple #[exV nd0 (.slice none 0 0), .int .i64 m]) (by simp [results, Try.results14, asAddr, hrl]; try rfl) rfl ?_
    exact .inl ⟨hm'.out, rfl, below_setRow b1.out (by omega) _⟩
set_option maxHeartbeats 2000000 in
set_option maxRecDepth 100000 in
theorem rows_any (t : Ex) (v : Value) (x y : Int) (w : World) (ht : Tree w v t) : Calls Try.prog 16 #[v, .int .i64 x, .int .i64 y] w fun e w' => ShP w (spotR t x 0) (movE (rowR x y) t) e w' := by
  obtain ⟨a0, len0, cap0, rfl, -, -, -, -⟩ := ht.open
  have B4 := hide (step (step (step (step (Below.refl w.heap.size w) (exO t.nd (.slice a0 len0 cap0))) (.cells #[.int .i64 x] 2)) (.cells #[.int .i64 y] 2)) (exO nd0 (.slice none 0 0)))
  have S4 : Hid (((((w.alloc (exO t.nd (.slice a0 len0 cap0))).alloc (.cells #[.int .i64 x] 2)).alloc (.cells #[.int .i64 y] 2)).alloc (exO nd0 (.slice none 0 0))).heap.size = w.heap.size + 4) := hide (by simp)
  have P0 := hide ((((Blk.new w (exC t.nd (.slice a0 len0 cap0)) 37).alloc (.cells #[.int .i64 x] 2)).alloc (.cells #[.int .i64 y] 2)).alloc (exO nd0 (.slice none 0 0)))
  have P1 : Hid (Blk ((((w.alloc (exO t.nd (.slice a0 len0 cap0))).alloc (.cells #[.int .i64 x] 2)).alloc (.cells #[.int .i64 y] 2)).alloc (exO nd0 (.slice none 0 0))) (w.heap.size + 1) #[.int .i64 x] 2) := hide (((Blk.new1 w (exO t.nd (.slice a0 len0 cap0)) #[.int .i64 x] 2).alloc (.cells #[.int .i64 y] 2)).alloc (exO nd0 (.slice none 0 0)))
  have P2 : Hid (Blk ((((w.alloc (exO t.nd (.slice a0 len0 cap0))).alloc (.cells #[.int .i64 x] 2)).alloc (.cells #[.int .i64 y] 2)).alloc (exO nd0 (.slice none 0 0))) (w.heap.size + 1 + 1) #[.int .i64 y] 2) := hide ((Blk.new2 w (exO t.nd (.slice a0 len0 cap0)) (.cells #[.int .i64 x] 2) #[.int .i64 y] 2).alloc (exO nd0 (.slice none 0 0)))
  have P3 : Hid (Blk ((((w.alloc (exO t.nd (.slice a0 len0 cap0))).alloc (.cells #[.int .i64 x] 2)).alloc (.cells #[.int .i64 y] 2)).alloc (exO nd0 (.slice none 0 0))) (w.heap.size + 1 + 1 + 1) (exC nd0 (.slice none 0 0)) 37) := hide (Blk.new3 w (exO t.nd (.slice a0 len0 cap0)) (.cells #[.int .i64 x] 2) (.cells #[.int .i64 y] 2) (exC nd0 (.slice none 0 0)) 37)
  have HM := hide (mayChange_any t _ x 0 _ (ht.step B4.out))
  have c1 := P1.out.one
  have c2 := P2.out.one
  by_cases hm : spotR t x 0 = 0
  · rw [hm] at HM ⊢
    have hm0 : mayR t = 0 := by unfold spotR at hm; by_cases q : mayR t = 0; (exact q); (rw [if_neg q] at hm; exact absurd hm q)
    have hx : 0 ≤ x ∧ x < 65536 := by unfold spotR at hm; rw [if_pos hm0] at hm; cases q : mayB x 0; (rw [q] at hm; cases hm); (have := mayB_iff.1 q; omega)
    have HV : Hid (∀ w1, Below ((((w.alloc (exO t.nd (.slice a0 len0 cap0))).alloc (.cells #[.int .i64 x] 2)).alloc (.cells #[.int .i64 y] 2)).alloc (exO nd0 (.slice none 0 0))).heap.size ((((w.alloc (exO t.nd (.slice a0 len0 cap0))).alloc (.cells #[.int .i64 x] 2)).alloc (.cells #[.int .i64 y] 2)).alloc (exO nd0 (.slice none 0 0))) w1 → Calls Try.prog 27 #[exV t.nd (.slice a0 len0 cap0), .func (.func 31) #[] #[.pointer (some ⟨w.heap.size + 1, 0, none⟩), .pointer (some ⟨w.heap.size + 1 + 1, 0, none⟩)]] w1 fun e w' => NewP w1 (movE (rowR x y) t) e w') := hide (fun w1 hb => moved_any t _ w1 (rows_mv (w0 := w1) (B1 := w.heap.size + 1) (B2 := w.heap.size + 1 + 1) (P1.out.keep hb) (P2.out.keep hb) hx.1 hx.2) (ht.step (next B4.out hb)) hm0)
    have HF := hide (fun w1 w2 a len cap bs => sh_fin (t := movE (rowR x y) t) (er := 0) (nd := nd0) (s := .slice none 0 0) (w1 := w1) (w2 := w2) (a := a) (len := len) (cap := cap) (bs := bs) B4.out S4.out P3.out)
    clear ht hm hm0
    generalize movE (rowR x y) t = u at *
    go_enter Try.func16, Try.ntmps16
    go_wp2_with (first
      | (refine wpList_load_blk rfl 37 _ rfl _ rfl _ P0.out _ Try.underlying37 rfl (exC_info _ _) ?_)
      | (refine wpList_load_blk rfl 37 _ rfl _ rfl _ (by with_reducible exact Q0.out) _ Try.underlying37 rfl (exC_info _ _) ?_)
      | (refine wpList_store_row rfl 37 _ _ rfl _ (exC u.nd (.slice a len cap)) rfl rfl 37 _ F1.out (exC_info _ _) (by rfl) (exC_one _ _ _ _) ?_)
      | (go_at_call 30; refine HM.out.mono ?_; rintro e w1 ⟨rfl, hb⟩; have Q0 := hide (P0.out.keep hb); replace HV := hide (HV.out w1 hb); replace HF := hide (fun w2 a len cap bs => HF.out w1 w2 a len cap bs hb); clear hb)
      | (go_at_call 27; refine HV.out.mono ?_; rintro e w2 ⟨a, len, cap, bs, rfl, hN, hb⟩; obtain ⟨F1, F2, F3⟩ := HF.out w2 a len cap bs hN hb; replace F1 := hide F1; replace F2 := hide F2; replace F3 := hide F3; clear hN hb HF))
    have hrl := run_blk (F1.out.setRow (cs := exC u.nd (.slice a len cap))) rfl
    refine bodyPost_ret (v := .tuple #[exV u.nd (.slice a len cap), .int .i64 0]) (by simp [results, Try.results16, asAddr, hrl]; try rfl) rfl ?_
    exact .inr ⟨rfl, _, _, _, _, rfl, F2.out, F3.out⟩
  · have hne : (spotR t x 0 != 0) = true := by simp [hm]
    have hne' : (spotR t x 0 == 0) = false := by simp [hm]
    have hm' := hide hm
    clear hm ht
    generalize spotR t x 0 = m at *
    go_enter Try.func16, Try.ntmps16
    go_wp2_with (first
      | (refine wpList_load_blk rfl 37 _ rfl _ rfl _ P0.out _ Try.underlying37 rfl (exC_info _ _) ?_)
      | (go_at_call 30; refine HM.out.mono ?_; rintro e w1 ⟨rfl, hb⟩; have N1 := hide (P3.out.keep hb); have b1 := hide (next B4.out hb); clear hb)
      | (have hn1 := N1.out; refine wpList_store_row rfl 37 _ _ rfl _ (exC nd0 (.slice none 0 0)) rfl rfl 37 _ hn1 (exC_info nd0 (.slice none 0 0)) (by rfl) (exC_one nd0 none 0 0) ?_))
    have hrl := run_blk (N1.out.setRow (cs := exC nd0 (.slice none 0 0))) rfl
    refine bodyPost_ret (v := .tuple #[exV nd0 (.slice none 0 0), .int .i64 m]) (by simp [results, Try.results16, asAddr, hrl]; try rfl) rfl ?_
    exact .inl ⟨hm'.out, rfl, below_setRow b1.out (by omega) _⟩
set_option maxHeartbeats 2000000 in
set_option maxRecDepth 100000 in
theorem cols_any (t : Ex) (v : Value) (x y : Int) (w : World) (ht : Tree w v t) : Calls Try.prog 17 #[v, .int .i64 x, .int .i64 y] w fun e w' => ShP w (spotR t 0 x) (movE (colR x y) t) e w' := by
  obtain ⟨a0, len0, cap0, rfl, -, -, -, -⟩ := ht.open
  have B4 := hide (step (step (step (step (Below.refl w.heap.size w) (exO t.nd (.slice a0 len0 cap0))) (.cells #[.int .i64 x] 2)) (.cells #[.int .i64 y] 2)) (exO nd0 (.slice none 0 0)))
  have S4 : Hid (((((w.alloc (exO t.nd (.slice a0 len0 cap0))).alloc (.cells #[.int .i64 x] 2)).alloc (.cells #[.int .i64 y] 2)).alloc (exO nd0 (.slice none 0 0))).heap.size = w.heap.size + 4) := hide (by simp)
  have P0 := hide ((((Blk.new w (exC t.nd (.slice a0 len0 cap0)) 37).alloc (.cells #[.int .i64 x] 2)).alloc (.cells #[.int .i64 y] 2)).alloc (exO nd0 (.slice none 0 0)))
  have P1 : Hid (Blk ((((w.alloc (exO t.nd (.slice a0 len0 cap0))).alloc (.cells #[.int .i64 x] 2)).alloc (.cells #[.int .i64 y] 2)).alloc (exO nd0 (.slice none 0 0))) (w.heap.size + 1) #[.int .i64 x] 2) := hide (((Blk.new1 w (exO t.nd (.slice a0 len0 cap0)) #[.int .i64 x] 2).alloc (.cells #[.int .i64 y] 2)).alloc (exO nd0 (.slice none 0 0)))
  have P2 : Hid (Blk ((((w.alloc (exO t.nd (.slice a0 len0 cap0))).alloc (.cells #[.int .i64 x] 2)).alloc (.cells #[.int .i64 y] 2)).alloc (exO nd0 (.slice none 0 0))) (w.heap.size + 1 + 1) #[.int .i64 y] 2) := hide ((Blk.new2 w (exO t.nd (.slice a0 len0 cap0)) (.cells #[.int .i64 x] 2) #[.int .i64 y] 2).alloc (exO nd0 (.slice none 0 0)))
  have P3 : Hid (Blk ((((w.alloc (exO t.nd (.slice a0 len0 cap0))).alloc (.cells #[.int .i64 x] 2)).alloc (.cells #[.int .i64 y] 2)).alloc (exO nd0 (.slice none 0 0))) (w.heap.size + 1 + 1 + 1) (exC nd0 (.slice none 0 0)) 37) := hide (Blk.new3 w (exO t.nd (.slice a0 len0 cap0)) (.cells #[.int .i64 x] 2) (.cells #[.int .i64 y] 2) (exC nd0 (.slice none 0 0)) 37)
  have HM := hide (mayChange_any t _ 0 x _ (ht.step B4.out))
  have c1 := P1.out.one
  have c2 := P2.out.one
  by_cases hm : spotR t 0 x = 0
  · rw [hm] at HM ⊢
    have hm0 : mayR t = 0 := by unfold spotR at hm; by_cases q : mayR t = 0; (exact q); (rw [if_neg q] at hm; exact absurd hm q)
    have hx : 0 ≤ x ∧ x < 702 := by unfold spotR at hm; rw [if_pos hm0] at hm; cases q : mayB 0 x; (rw [q] at hm; cases hm); (have := mayB_iff.1 q; omega)
    have HV : Hid (∀ w1, Below ((((w.alloc (exO t.nd (.slice a0 len0 cap0))).alloc (.cells #[.int .i64 x] 2)).alloc (.cells #[.int .i64 y] 2)).alloc (exO nd0 (.slice none 0 0))).heap.size ((((w.alloc (exO t.nd (.slice a0 len0 cap0))).alloc (.cells #[.int .i64 x] 2)).alloc (.cells #[.int .i64 y] 2)).alloc (exO nd0 (.slice none 0 0))) w1 → Calls Try.prog 27 #[exV t.nd (.slice a0 len0 cap0), .func (.func 33) #[] #[.pointer (some ⟨w.heap.size + 1, 0, none⟩), .pointer (some ⟨w.heap.size + 1 + 1, 0, none⟩)]] w1 fun e w' => NewP w1 (movE (colR x y) t) e w') := hide (fun w1 hb => moved_any t _ w1 (cols_mv (w0 := w1) (B1 := w.heap.size + 1) (B2 := w.heap.size + 1 + 1) (P1.out.keep hb) (P2.out.keep hb) hx.1 hx.2) (ht.step (next B4.out hb)) hm0)
    have HF := hide (fun w1 w2 a len cap bs => sh_fin (t := movE (colR x y) t) (er := 0) (nd := nd0) (s := .slice none 0 0) (w1 := w1) (w2 := w2) (a := a) (len := len) (cap := cap) (bs := bs) B4.out S4.out P3.out)
    clear ht hm hm0
    generalize movE (colR x y) t = u at *
    go_enter Try.func17, Try.ntmps17
    go_wp2_with (first
      | (refine wpList_load_blk rfl 37 _ rfl _ rfl _ P0.out _ Try.underlying37 rfl (exC_info _ _) ?_)
      | (refine wpList_load_blk rfl 37 _ rfl _ rfl _ (by with_reducible exact Q0.out) _ Try.underlying37 rfl (exC_info _ _) ?_)
      | (refine wpList_store_row rfl 37 _ _ rfl _ (exC u.nd (.slice a len cap)) rfl rfl 37 _ F1.out (exC_info _ _) (by rfl) (exC_one _ _ _ _) ?_)
      | (go_at_call 30; refine HM.out.mono ?_; rintro e w1 ⟨rfl, hb⟩; have Q0 := hide (P0.out.keep hb); replace HV := hide (HV.out w1 hb); replace HF := hide (fun w2 a len cap bs => HF.out w1 w2 a len cap bs hb); clear hb)
      | (go_at_call 27; refine HV.out.mono ?_; rintro e w2 ⟨a, len, cap, bs, rfl, hN, hb⟩; obtain ⟨F1, F2, F3⟩ := HF.out w2 a len cap bs hN hb; replace F1 := hide F1; replace F2 := hide F2; replace F3 := hide F3; clear hN hb HF))
    have hrl := run_blk (F1.out.setRow (cs := exC u.nd (.slice a len cap))) rfl
    refine bodyPost_ret (v := .tuple #[exV u.nd (.slice a len cap), .int .i64 0]) (by simp [results, Try.results17, asAddr, hrl]; try rfl) rfl ?_
    exact .inr ⟨rfl, _, _, _, _, rfl, F2.out, F3.out⟩
  · have hne : (spotR t 0 x != 0) = true := by simp [hm]
    have hne' : (spotR t 0 x == 0) = false := by simp [hm]
    have hm' := hide hm
    clear hm ht
    generalize spotR t 0 x = m at *
    go_enter Try.func17, Try.ntmps17
    go_wp2_with (first
      | (refine wpList_load_blk rfl 37 _ rfl _ rfl _ P0.out _ Try.underlying37 rfl (exC_info _ _) ?_)
      | (go_at_call 30; refine HM.out.mono ?_; rintro e w1 ⟨rfl, hb⟩; have N1 := hide (P3.out.keep hb); have b1 := hide (next B4.out hb); clear hb)
      | (have hn1 := N1.out; refine wpList_store_row rfl 37 _ _ rfl _ (exC nd0 (.slice none 0 0)) rfl rfl 37 _ hn1 (exC_info nd0 (.slice none 0 0)) (by rfl) (exC_one nd0 none 0 0) ?_))
    have hrl := run_blk (N1.out.setRow (cs := exC nd0 (.slice none 0 0))) rfl
    refine bodyPost_ret (v := .tuple #[exV nd0 (.slice none 0 0), .int .i64 m]) (by simp [results, Try.results17, asAddr, hrl]; try rfl) rfl ?_
    exact .inl ⟨hm'.out, rfl, below_setRow b1.out (by omega) _⟩
end Go.Proofs.Ytiajoppbgebnpaa
