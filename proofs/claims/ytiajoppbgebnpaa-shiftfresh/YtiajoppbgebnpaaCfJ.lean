/- quadrillelaw12.call: a call, and the document's. quadrillelaw12.call: of every call. -/
import Derived.Test.YtiajoppbgebnpaaR2J
import Derived.BigRegion
namespace Go.Proofs.Ytiajoppbgebnpaa
open Go.RowKit Go.Sort
set_option linter.unusedVariables false

/-- A call's cells. -/
def opX (K M N : Int) (n : Nd) (s : Value) : Array Value :=
  #[.int .i64 K, .int .i64 n.kind, .int .i64 n.op, .int .i64 n.num, .string n.text, .int .i64 n.ref.row, .int .i64 n.ref.col, .bool n.ref.pr, .bool n.ref.pc, .int .i64 n.to.row, .int .i64 n.to.col, .bool n.to.pr, .bool n.to.pc, .int .i64 n.fn, s, .int .i64 M, .int .i64 N]
theorem opX_rng {w : World} {B : Nat} {K M N : Int} {n : Nd} {s : Value} (h : Blk w B (opX K M N n s) 39) : w.rangeAt B 1 (exC n s).toList := World.rangeAt_of_block h 1 14
theorem opX_c {w : World} {B : Nat} {K M N : Int} {n : Nd} {s : Value} (h : Blk w B (opX K M N n s) 39) : w.cell? ⟨B, 0, none⟩ = some (.int .i64 K) ∧ w.cell? ⟨B, 15, none⟩ = some (.int .i64 M) ∧ w.cell? ⟨B, 16, none⟩ = some (.int .i64 N) := ⟨h.at' 0, h.at' 15, h.at' 16⟩
theorem step_load {ops : Array Oper} {o : Oper} {a : Act} {w : World} {Kn : Act → World → Prop} {Q : Exit → Act → World → Prop} {E : Prop} (hgd : o.guard = none) (x : Operand) (ho : o.op = .load 37 x) (g : Nat)
    (hx : a.eval x = .pointer (some ⟨g, 0, none⟩)) (n : Nd) (s : Value) (hg : Blk w g (exC n s) 37) (h : Kn (a.put o.dst (exV n s)) w) : if Region.wanted o (yielded ops a.tmps) = true then Oper.wp Try.prog o a w Kn Q else E := by
  have hw : Region.wanted o (yielded ops a.tmps) = true := by simp [Region.wanted, hgd]
  rw [if_pos hw]
  exact wp_load_row 37 x ho g hx _ _ _ _ hg Try.underlying37 rfl (exC_info _ _) h
theorem step_store {ops : Array Oper} {o : Oper} {a : Act} {w : World} {Kn : Act → World → Prop} {Q : Exit → Act → World → Prop} {E : Prop} (hgd : o.guard = none) (x y : Operand) (ho : o.op = .store 37 x y) (g : Nat)
    (hx : a.eval x = .pointer (some ⟨g, 0, none⟩)) (n : Nd) (b : Option Addr) (l c : Nat) (hy : a.eval y = exV n (.slice b l c)) (n0 : Nd) (s0 : Value) (hg : Blk w g (exC n0 s0) 37)
    (h : Kn (a.put o.dst undef) (w.setRow g (exC n (.slice b l c)))) : if Region.wanted o (yielded ops a.tmps) = true then Oper.wp Try.prog o a w Kn Q else E := by
  have hw : Region.wanted o (yielded ops a.tmps) = true := by simp [Region.wanted, hgd]
  rw [if_pos hw]
  exact wp_store_row 37 x y ho g _ hx hy _ _ hg (exC_info _ _) rfl (exC_one _ _ _ _) h
theorem Blk.other {w : World} {g k : Nat} {cs cs' : Array Value} {t : TypeId} (h : Blk w g cs t) (hk : g ≠ k) : Blk (w.setRow k cs') g cs t := (setRow_other _ _ _ _ hk).trans h
theorem call_fin {w w0 w1 w2 w3 : World} {v1 v2 : Value} {u : Ex} {bs : List Nat} {o1 : Obj} {ca cb : Array Value} (z0 : w0.heap.size = w.heap.size + 1 + 1 + 1 + 1) (hN : New w0 w1 v1 u bs) (hz : w0.heap.size ≤ w1.heap.size) (hb : Below (w1.alloc o1).heap.size (w1.alloc o1) w2)
    {G : Nat} (hG : G ≤ w.heap.size) (hT : In (OldN G (w1.alloc o1).heap.size w2.heap.size) w2 v2 u) (k3 : ∀ k, k < w2.heap.size → w3.heap[k]? = w2.heap[k]?) (l3 : w3.heap.size = w2.heap.size + 1) :
    New w ((w3.drew.setRow (w.heap.size + 1 + 1) ca).setRow (w.heap.size + 1 + 1 + 1) cb) v1 u bs ∧ (∃ N, (∀ y ∈ bs, G ≤ y ∧ y < N) ∧ In (OldN G N ((w3.drew.setRow (w.heap.size + 1 + 1) ca).setRow (w.heap.size + 1 + 1 + 1) cb).heap.size) ((w3.drew.setRow (w.heap.size + 1 + 1) ca).setRow (w.heap.size + 1 + 1 + 1) cb) v2 u) := by
  have hs : ∀ k, k < w2.heap.size → k ≠ w.heap.size + 1 + 1 → k ≠ w.heap.size + 1 + 1 + 1 → ((w3.drew.setRow (w.heap.size + 1 + 1) ca).setRow (w.heap.size + 1 + 1 + 1) cb).heap[k]? = w2.heap[k]? := fun k h a b => (setRow_other _ _ _ _ b).trans ((setRow_other _ _ _ _ a).trans (k3 k h))
  have ha : (w1.alloc o1).heap.size = w1.heap.size + 1 := by simp
  have hz2 := hb.size
  have hz3 : ((w3.drew.setRow (w.heap.size + 1 + 1) ca).setRow (w.heap.size + 1 + 1 + 1) cb).heap.size = w2.heap.size + 1 := by rw [size_setRow, size_setRow]; exact l3
  refine ⟨⟨hN.ow.move _ (fun k hk => ?_), hN.nd, fun k hk => ?_⟩, (w1.alloc o1).heap.size, fun k hk => ?_, hT.move (fun k hk => ?_)⟩
  · have := hN.at' k hk
    rw [hs k (by omega) (by omega) (by omega), hb.block k (by omega)]
    exact Below.heap_alloc _ _ k this.2
  · have := hN.at' k hk
    omega
  · have := hN.at' k hk
    omega
  · rcases hk with hk | hk
    · exact ⟨.inl hk, hs k (by omega) (by omega) (by omega)⟩
    · exact ⟨.inr ⟨by omega, by omega⟩, hs k (by omega) (by omega) (by omega)⟩
/-- What call answers. -/
def ClP (G : Nat) (w : World) (er : Int) (u : Ex) (e : Ending) (w' : World) : Prop :=
  (er ≠ 0 ∧ e = .returned (.tuple #[exV nd0 (.slice none 0 0), .int .i64 er, exV nd0 (.slice none 0 0), .int .i64 er]) ∧ Below w.heap.size w w') ∨
  (er = 0 ∧ ∃ a len cap bs a' len' cap', e = .returned (.tuple #[exV u.nd (.slice a len cap), .int .i64 0, exV u.nd (.slice a' len' cap'), .int .i64 0]) ∧ New w w' (exV u.nd (.slice a len cap)) u bs ∧ (∃ N, (∀ y ∈ bs, G ≤ y ∧ y < N) ∧ In (OldN G N w'.heap.size) w' (exV u.nd (.slice a' len' cap')) u) ∧ Below w.heap.size w w')
set_option maxHeartbeats 4000000 in
set_option maxRecDepth 100000 in
theorem call_1t (K M N : Int) (u : Ex) (n1 n2 : Nd) (a1 a2 : Option Addr) (l1 c1 l2 c2 : Nat) (w : World) (h1 : Tree w (exV n1 (.slice a1 l1 c1)) u) (G : Nat) (hG : G ≤ w.heap.size) (h2 : In (· < G) w (exV n2 (.slice a2 l2 c2)) u) (k1 : (K == 1) = true) (he : mayR u = 0) :
    Calls Try.prog 7 #[.agg (opX K M N n2 (.slice a2 l2 c2)), exV n1 (.slice a1 l1 c1)] w fun e w' => ClP G w (mayR u) (movE (pasR M N) u) e w' := by
  have OB := hide ((((Blk.new w (opX K M N n2 (.slice a2 l2 c2)) 39).alloc (exO n1 (.slice a1 l1 c1))).alloc (.cells #[.int .i64 0, .int .i64 0, .int .i64 0, .string { data := #[] }, .int .i64 0, .int .i64 0, .bool false, .bool false, .int .i64 0, .int .i64 0, .bool false, .bool false, .int .i64 0, .slice none 0 0] 37)).alloc (.cells #[.int .i64 0, .int .i64 0, .int .i64 0, .string { data := #[] }, .int .i64 0, .int .i64 0, .bool false, .bool false, .int .i64 0, .int .i64 0, .bool false, .bool false, .int .i64 0, .slice none 0 0] 37))
  have TB := hide (((Blk.new1 w (.cells (opX K M N n2 (.slice a2 l2 c2)) 39) (exC n1 (.slice a1 l1 c1)) 37).alloc (.cells #[.int .i64 0, .int .i64 0, .int .i64 0, .string { data := #[] }, .int .i64 0, .int .i64 0, .bool false, .bool false, .int .i64 0, .int .i64 0, .bool false, .bool false, .int .i64 0, .slice none 0 0] 37)).alloc (.cells #[.int .i64 0, .int .i64 0, .int .i64 0, .string { data := #[] }, .int .i64 0, .int .i64 0, .bool false, .bool false, .int .i64 0, .int .i64 0, .bool false, .bool false, .int .i64 0, .slice none 0 0] 37))
  have RB : Hid (Blk ((((w.alloc (.cells (opX K M N n2 (.slice a2 l2 c2)) 39)).alloc (exO n1 (.slice a1 l1 c1))).alloc (.cells #[.int .i64 0, .int .i64 0, .int .i64 0, .string { data := #[] }, .int .i64 0, .int .i64 0, .bool false, .bool false, .int .i64 0, .int .i64 0, .bool false, .bool false, .int .i64 0, .slice none 0 0] 37)).alloc (.cells #[.int .i64 0, .int .i64 0, .int .i64 0, .string { data := #[] }, .int .i64 0, .int .i64 0, .bool false, .bool false, .int .i64 0, .int .i64 0, .bool false, .bool false, .int .i64 0, .slice none 0 0] 37)) (w.heap.size + 1 + 1) (exC nd0 (.slice none 0 0)) 37) := hide ((Blk.new2 w (.cells (opX K M N n2 (.slice a2 l2 c2)) 39) (exO n1 (.slice a1 l1 c1)) (exC nd0 (.slice none 0 0)) 37).alloc (.cells #[.int .i64 0, .int .i64 0, .int .i64 0, .string { data := #[] }, .int .i64 0, .int .i64 0, .bool false, .bool false, .int .i64 0, .int .i64 0, .bool false, .bool false, .int .i64 0, .slice none 0 0] 37))
  have SB : Hid (Blk ((((w.alloc (.cells (opX K M N n2 (.slice a2 l2 c2)) 39)).alloc (exO n1 (.slice a1 l1 c1))).alloc (.cells #[.int .i64 0, .int .i64 0, .int .i64 0, .string { data := #[] }, .int .i64 0, .int .i64 0, .bool false, .bool false, .int .i64 0, .int .i64 0, .bool false, .bool false, .int .i64 0, .slice none 0 0] 37)).alloc (.cells #[.int .i64 0, .int .i64 0, .int .i64 0, .string { data := #[] }, .int .i64 0, .int .i64 0, .bool false, .bool false, .int .i64 0, .int .i64 0, .bool false, .bool false, .int .i64 0, .slice none 0 0] 37)) (w.heap.size + 1 + 1 + 1) (exC nd0 (.slice none 0 0)) 37) := hide (Blk.new3 w (.cells (opX K M N n2 (.slice a2 l2 c2)) 39) (exO n1 (.slice a1 l1 c1)) (.cells #[.int .i64 0, .int .i64 0, .int .i64 0, .string { data := #[] }, .int .i64 0, .int .i64 0, .bool false, .bool false, .int .i64 0, .int .i64 0, .bool false, .bool false, .int .i64 0, .slice none 0 0] 37) (exC nd0 (.slice none 0 0)) 37)
  have B0 := hide (step (step (step (step (Below.refl w.heap.size w) (.cells (opX K M N n2 (.slice a2 l2 c2)) 39)) (exO n1 (.slice a1 l1 c1))) (.cells #[.int .i64 0, .int .i64 0, .int .i64 0, .string { data := #[] }, .int .i64 0, .int .i64 0, .bool false, .bool false, .int .i64 0, .int .i64 0, .bool false, .bool false, .int .i64 0, .slice none 0 0] 37)) (.cells #[.int .i64 0, .int .i64 0, .int .i64 0, .string { data := #[] }, .int .i64 0, .int .i64 0, .bool false, .bool false, .int .i64 0, .int .i64 0, .bool false, .bool false, .int .i64 0, .slice none 0 0] 37))
  have Z0 : Hid (((((w.alloc (.cells (opX K M N n2 (.slice a2 l2 c2)) 39)).alloc (exO n1 (.slice a1 l1 c1))).alloc (.cells #[.int .i64 0, .int .i64 0, .int .i64 0, .string { data := #[] }, .int .i64 0, .int .i64 0, .bool false, .bool false, .int .i64 0, .int .i64 0, .bool false, .bool false, .int .i64 0, .slice none 0 0] 37)).alloc (.cells #[.int .i64 0, .int .i64 0, .int .i64 0, .string { data := #[] }, .int .i64 0, .int .i64 0, .bool false, .bool false, .int .i64 0, .int .i64 0, .bool false, .bool false, .int .i64 0, .slice none 0 0] 37)).heap.size = w.heap.size + 1 + 1 + 1 + 1) := hide (by simp)
  obtain ⟨w0, hw0⟩ : ∃ w0, ((((w.alloc (.cells (opX K M N n2 (.slice a2 l2 c2)) 39)).alloc (exO n1 (.slice a1 l1 c1))).alloc (.cells #[.int .i64 0, .int .i64 0, .int .i64 0, .string { data := #[] }, .int .i64 0, .int .i64 0, .bool false, .bool false, .int .i64 0, .int .i64 0, .bool false, .bool false, .int .i64 0, .slice none 0 0] 37)).alloc (.cells #[.int .i64 0, .int .i64 0, .int .i64 0, .string { data := #[] }, .int .i64 0, .int .i64 0, .bool false, .bool false, .int .i64 0, .int .i64 0, .bool false, .bool false, .int .i64 0, .slice none 0 0] 37)) = w0 := ⟨_, rfl⟩
  rw [hw0] at OB TB RB SB B0 Z0
  have HA := hide (paste_any u _ M N w0 (h1.step B0.out))
  have HB := hide (fun w' (h : Below w.heap.size w w') => rpaste_any u _ M N G w' (Nat.le_trans hG h.size) (In.move (fun k hk => ⟨hk, h.block k (Nat.lt_of_lt_of_le hk hG)⟩) u h2))
  obtain ⟨m0, m15, m16⟩ := opX_c OB.out
  obtain ⟨un, uk, hu⟩ : ∃ un uk, movE (pasR M N) u = .mk un uk := by cases movE (pasR M N) u; exact ⟨_, _, rfl⟩
  rw [hu] at HA HB ⊢
  have hGh := hide hG
  clear hu h1 h2 hG
  go_enter Try.func7, Try.ntmps7
  go_wp2_with (refine wpList_load_blk rfl 37 _ rfl _ rfl _ (by with_reducible exact TB.out) _ Try.underlying37 rfl (exC_info _ _) ?_)
  clear hw0
  refine HA.out.mono ?_
  intro e w1 hh
  obtain ⟨a3, l3, c3, bs, rfl, hN, hb⟩ : ∃ a len cap bs, e = .returned (.tuple #[exV un (.slice a len cap), .int .i64 0]) ∧ New w0 w1 (exV un (.slice a len cap)) (.mk un uk) bs ∧ Below w0.heap.size w0 w1 := by
    rcases hh with ⟨q, _⟩ | ⟨_, q⟩
    · exact absurd he q
    · exact q
  replace hN := hide hN
  have ev : .int .i64 0 = Value.int .i64 0 := rfl
  clear hh m0 m15 m16
  have hb1 := hide hb
  have B1 := hide (step (next B0.out hb) (exO un (.slice a3 l3 c3)))
  have OB1 : Hid (Blk (w1.alloc (exO un (.slice a3 l3 c3))) w.heap.size (opX K M N n2 (.slice a2 l2 c2)) 39) := hide ((OB.out.keep hb).alloc _)
  have RB1 : Hid (Blk (w1.alloc (exO un (.slice a3 l3 c3))) (w.heap.size + 1 + 1) (exC nd0 (.slice none 0 0)) 37) := hide ((RB.out.keep hb).alloc _)
  have SB1 : Hid (Blk (w1.alloc (exO un (.slice a3 l3 c3))) (w.heap.size + 1 + 1 + 1) (exC nd0 (.slice none 0 0)) 37) := hide ((SB.out.keep hb).alloc _)
  have AB1 : Hid (Blk (w1.alloc (exO un (.slice a3 l3 c3))) w1.heap.size (exC un (.slice a3 l3 c3)) 37) := hide (Blk.new w1 _ _)
  have R1 := hide (opX_rng OB1.out)
  obtain ⟨m0, m15, m16⟩ := opX_c OB1.out
  have hsn1 := run_putnew w1 un a3 l3 c3
  clear hb OB TB RB SB
  go_wp2_with (refine wpList_load_at rfl 37 _ rfl _ _ rfl _ _ (by with_reducible exact R1.out) Try.underlying37 rfl (exC_info _ _) ?_)
  refine (HB.out _ B1.out).mono ?_
  intro e w2 hh
  obtain ⟨a4, l4, c4, rfl, hT, hb⟩ : ∃ a len cap, e = .returned (.tuple #[exV un (.slice a len cap), .int .i64 0]) ∧ In (OldN G (w1.alloc (exO un (.slice a3 l3 c3))).heap.size w2.heap.size) w2 (exV un (.slice a len cap)) (.mk un uk) ∧ Below (w1.alloc (exO un (.slice a3 l3 c3))).heap.size (w1.alloc (exO un (.slice a3 l3 c3))) w2 := by
    rcases hh with ⟨q, _⟩ | ⟨_, q⟩
    · exact absurd he q
    · exact q
  replace hT := hide hT
  clear hh m0 m15 m16
  have hb2 := hide hb
  have B2 := hide (step (next B1.out hb) (exO un (.slice a4 l4 c4)))
  have RB2 : Hid (Blk (w2.alloc (exO un (.slice a4 l4 c4))) (w.heap.size + 1 + 1) (exC nd0 (.slice none 0 0)) 37) := hide ((RB1.out.keep hb).alloc _)
  have SB2 : Hid (Blk (w2.alloc (exO un (.slice a4 l4 c4))) (w.heap.size + 1 + 1 + 1) (exC nd0 (.slice none 0 0)) 37) := hide ((SB1.out.keep hb).alloc _)
  have AB2 : Hid (Blk (w2.alloc (exO un (.slice a4 l4 c4))) w1.heap.size (exC un (.slice a3 l3 c3)) 37) := hide ((AB1.out.keep hb).alloc _)
  have BB2 : Hid (Blk (w2.alloc (exO un (.slice a4 l4 c4))) w2.heap.size (exC un (.slice a4 l4 c4)) 37) := hide (Blk.new w2 _ _)
  have hsn2 := run_putnew w2 un a4 l4 c4
  clear hb OB1 RB1 SB1 AB1 R1 hsn1
  go_wp2_with fail
  have Z3 : Hid (w.heap.size + 1 + 1 + 1 + 1 ≤ w1.heap.size ∧ w1.heap.size + 1 ≤ w2.heap.size) := hide ⟨by have := hb1.out.size; have := Z0.out; omega, by have := hb2.out.size; simp at this; omega⟩
  have K3 : Hid (∀ k, k < w2.heap.size → (w2.alloc (exO un (.slice a4 l4 c4))).heap[k]? = w2.heap[k]?) := hide (fun k hk => Below.heap_alloc _ _ k hk)
  have L3 : Hid ((w2.alloc (exO un (.slice a4 l4 c4))).heap.size = w2.heap.size + 1) := hide (by simp)
  clear hsn2
  generalize hw3 : w2.alloc (exO un (.slice a4 l4 c4)) = w3 at *
  clear hw3
  replace RB2 : Hid (Blk w3.drew (w.heap.size + 1 + 1) (exC nd0 (.slice none 0 0)) 37) := RB2
  replace SB2 : Hid (Blk w3.drew (w.heap.size + 1 + 1 + 1) (exC nd0 (.slice none 0 0)) 37) := SB2
  replace AB2 : Hid (Blk w3.drew w1.heap.size (exC un (.slice a3 l3 c3)) 37) := AB2
  replace BB2 : Hid (Blk w3.drew w2.heap.size (exC un (.slice a4 l4 c4)) 37) := BB2
  refine wp_region_any (by kernel_rfl) ?_
  change wpAny _ _ _ _ _ _ _ (World.drew _)
  have FR : Hid (Blk ((w3.drew.setRow (w.heap.size + 1 + 1) (exC un (.slice a3 l3 c3))).setRow (w.heap.size + 1 + 1 + 1) (exC un (.slice a4 l4 c4))) (w.heap.size + 1 + 1) (exC un (.slice a3 l3 c3)) 37) := hide (RB2.out.setRow.other (by omega))
  have FS : Hid (Blk ((w3.drew.setRow (w.heap.size + 1 + 1) (exC un (.slice a3 l3 c3))).setRow (w.heap.size + 1 + 1 + 1) (exC un (.slice a4 l4 c4))) (w.heap.size + 1 + 1 + 1) (exC un (.slice a4 l4 c4)) 37) := hide (Blk.setRow (SB2.out.other (by omega)))
  have FB : Hid (Below w.heap.size w ((w3.drew.setRow (w.heap.size + 1 + 1) (exC un (.slice a3 l3 c3))).setRow (w.heap.size + 1 + 1 + 1) (exC un (.slice a4 l4 c4)))) := hide (below_setRow (below_setRow B2.out.drew (by omega) _) (by omega) _)
  refine wpAny_take (i := 1) (v := (.int .i64 0)) rfl (by kernel_rfl) (by kernel_rfl) (by kernel_rfl) (fun _ _ _ h => h) (Or.inl ⟨by rfl, by intro w; go_simp⟩) ?_
  refine wpAny_take (i := 3) (v := (.int .i64 0)) rfl (by kernel_rfl) (by kernel_rfl) (by kernel_rfl) (fun _ _ _ h => h) (Or.inl ⟨by rfl, by intro w; go_simp⟩) ?_
  refine wpAny_ready (rs := [0, 2]) (by kernel_rfl) (by simp) ?_
  refine AllReady.cons rfl (fun K hK => ?_) ?_
  · refine step_load rfl _ rfl _ rfl un (.slice a3 l3 c3) (by with_reducible exact AB2.out) ?_
    try go_simp
    refine hK _ _ ?_
    clear hK K
    refine wpAny_ready (rs := [2, 4]) (by kernel_rfl) (by simp) ?_
    refine AllReady.cons rfl (fun K hK => ?_) ?_
    · refine step_load rfl _ rfl _ rfl un (.slice a4 l4 c4) (by with_reducible first | exact BB2.out | exact BB2.out.other (by have := Z3.out; omega)) ?_
      try go_simp
      refine hK _ _ ?_
      clear hK K
      refine wpAny_ready (rs := [4]) (by kernel_rfl) (by simp) ?_
      refine AllReady.cons rfl (fun K hK => ?_) ?_
      · refine step_store rfl _ _ rfl _ rfl un _ _ _ (rfl : _ = exV un (.slice a3 l3 c3)) _ _ (by with_reducible exact RB2.out) ?_
        try go_simp
        refine hK _ _ ?_
        clear hK K
        refine wpAny_ready (rs := [5]) (by kernel_rfl) (by simp) ?_
        refine AllReady.cons rfl (fun K hK => ?_) ?_
        · go_simp
          refine hK _ _ ?_
          clear hK K
          refine wpAny_ready (rs := [6]) (by kernel_rfl) (by simp) ?_
          refine AllReady.cons rfl (fun K hK => ?_) ?_
          · refine step_store rfl _ _ rfl _ rfl un _ _ _ (rfl : _ = exV un (.slice a4 l4 c4)) _ _ (by with_reducible exact SB2.out.other (by omega)) ?_
            try go_simp
            refine hK _ _ ?_
            clear hK K
            refine wpAny_ready (rs := [7]) (by kernel_rfl) (by simp) ?_
            refine AllReady.cons rfl (fun K hK => ?_) ?_
            · go_simp
              refine hK _ _ ?_
              clear hK K
              refine wpAny_done (by kernel_rfl) ?_ _
              go_wp2_with fail
              have hr1 := run_blk FR.out rfl
              have hr2 := run_blk FS.out rfl
              refine bodyPost_ret (v := .tuple #[exV un (.slice a3 l3 c3), (.int .i64 0), exV un (.slice a4 l4 c4), (.int .i64 0)]) (by simp [results, Try.results7, asAddr, hr1, hr2]; try rfl) rfl ?_
              obtain ⟨f1, f2⟩ := call_fin (ca := exC un (.slice a3 l3 c3)) (cb := exC un (.slice a4 l4 c4)) Z0.out hN.out hb1.out.size hb2.out hGh.out hT.out K3.out L3.out
              exact .inr ⟨he, _, _, _, _, _, _, _, rfl, f1, f2, FB.out⟩
            exact AllReady.nil
          exact AllReady.nil
        exact AllReady.nil
      exact AllReady.nil
    refine AllReady.cons rfl (fun K hK => ?_) ?_
    · refine step_store rfl _ _ rfl _ rfl un _ _ _ (rfl : _ = exV un (.slice a3 l3 c3)) _ _ (by with_reducible exact RB2.out) ?_
      try go_simp
      refine hK _ _ ?_
      clear hK K
      refine wpAny_ready (rs := [2, 5]) (by kernel_rfl) (by simp) ?_
      refine AllReady.cons rfl (fun K hK => ?_) ?_
      · refine step_load rfl _ rfl _ rfl un (.slice a4 l4 c4) (by with_reducible first | exact BB2.out | exact BB2.out.other (by have := Z3.out; omega)) ?_
        try go_simp
        refine hK _ _ ?_
        clear hK K
        refine wpAny_ready (rs := [5]) (by kernel_rfl) (by simp) ?_
        refine AllReady.cons rfl (fun K hK => ?_) ?_
        · go_simp
          refine hK _ _ ?_
          clear hK K
          refine wpAny_ready (rs := [6]) (by kernel_rfl) (by simp) ?_
          refine AllReady.cons rfl (fun K hK => ?_) ?_
          · refine step_store rfl _ _ rfl _ rfl un _ _ _ (rfl : _ = exV un (.slice a4 l4 c4)) _ _ (by with_reducible exact SB2.out.other (by omega)) ?_
            try go_simp
            refine hK _ _ ?_
            clear hK K
            refine wpAny_ready (rs := [7]) (by kernel_rfl) (by simp) ?_
            refine AllReady.cons rfl (fun K hK => ?_) ?_
            · go_simp
              refine hK _ _ ?_
              clear hK K
              refine wpAny_done (by kernel_rfl) ?_ _
              go_wp2_with fail
              have hr1 := run_blk FR.out rfl
              have hr2 := run_blk FS.out rfl
              refine bodyPost_ret (v := .tuple #[exV un (.slice a3 l3 c3), (.int .i64 0), exV un (.slice a4 l4 c4), (.int .i64 0)]) (by simp [results, Try.results7, asAddr, hr1, hr2]; try rfl) rfl ?_
              obtain ⟨f1, f2⟩ := call_fin (ca := exC un (.slice a3 l3 c3)) (cb := exC un (.slice a4 l4 c4)) Z0.out hN.out hb1.out.size hb2.out hGh.out hT.out K3.out L3.out
              exact .inr ⟨he, _, _, _, _, _, _, _, rfl, f1, f2, FB.out⟩
            exact AllReady.nil
          exact AllReady.nil
        exact AllReady.nil
      refine AllReady.cons rfl (fun K hK => ?_) ?_
      · go_simp
        refine hK _ _ ?_
        clear hK K
        refine wpAny_ready (rs := [2]) (by kernel_rfl) (by simp) ?_
        refine AllReady.cons rfl (fun K hK => ?_) ?_
        · refine step_load rfl _ rfl _ rfl un (.slice a4 l4 c4) (by with_reducible first | exact BB2.out | exact BB2.out.other (by have := Z3.out; omega)) ?_
          try go_simp
          refine hK _ _ ?_
          clear hK K
          refine wpAny_ready (rs := [6]) (by kernel_rfl) (by simp) ?_
          refine AllReady.cons rfl (fun K hK => ?_) ?_
          · refine step_store rfl _ _ rfl _ rfl un _ _ _ (rfl : _ = exV un (.slice a4 l4 c4)) _ _ (by with_reducible exact SB2.out.other (by omega)) ?_
            try go_simp
            refine hK _ _ ?_
            clear hK K
            refine wpAny_ready (rs := [7]) (by kernel_rfl) (by simp) ?_
            refine AllReady.cons rfl (fun K hK => ?_) ?_
            · go_simp
              refine hK _ _ ?_
              clear hK K
              refine wpAny_done (by kernel_rfl) ?_ _
              go_wp2_with fail
              have hr1 := run_blk FR.out rfl
              have hr2 := run_blk FS.out rfl
              refine bodyPost_ret (v := .tuple #[exV un (.slice a3 l3 c3), (.int .i64 0), exV un (.slice a4 l4 c4), (.int .i64 0)]) (by simp [results, Try.results7, asAddr, hr1, hr2]; try rfl) rfl ?_
              obtain ⟨f1, f2⟩ := call_fin (ca := exC un (.slice a3 l3 c3)) (cb := exC un (.slice a4 l4 c4)) Z0.out hN.out hb1.out.size hb2.out hGh.out hT.out K3.out L3.out
              exact .inr ⟨he, _, _, _, _, _, _, _, rfl, f1, f2, FB.out⟩
            exact AllReady.nil
          exact AllReady.nil
        exact AllReady.nil
      exact AllReady.nil
    exact AllReady.nil
  refine AllReady.cons rfl (fun K hK => ?_) ?_
  · refine step_load rfl _ rfl _ rfl un (.slice a4 l4 c4) (by with_reducible first | exact BB2.out | exact BB2.out.other (by have := Z3.out; omega)) ?_
    try go_simp
    refine hK _ _ ?_
    clear hK K
    refine wpAny_ready (rs := [0]) (by kernel_rfl) (by simp) ?_
    refine AllReady.cons rfl (fun K hK => ?_) ?_
    · refine step_load rfl _ rfl _ rfl un (.slice a3 l3 c3) (by with_reducible exact AB2.out) ?_
      try go_simp
      refine hK _ _ ?_
      clear hK K
      refine wpAny_ready (rs := [4]) (by kernel_rfl) (by simp) ?_
      refine AllReady.cons rfl (fun K hK => ?_) ?_
      · refine step_store rfl _ _ rfl _ rfl un _ _ _ (rfl : _ = exV un (.slice a3 l3 c3)) _ _ (by with_reducible exact RB2.out) ?_
        try go_simp
        refine hK _ _ ?_
        clear hK K
        refine wpAny_ready (rs := [5]) (by kernel_rfl) (by simp) ?_
        refine AllReady.cons rfl (fun K hK => ?_) ?_
        · go_simp
          refine hK _ _ ?_
          clear hK K
          refine wpAny_ready (rs := [6]) (by kernel_rfl) (by simp) ?_
          refine AllReady.cons rfl (fun K hK => ?_) ?_
          · refine step_store rfl _ _ rfl _ rfl un _ _ _ (rfl : _ = exV un (.slice a4 l4 c4)) _ _ (by with_reducible exact SB2.out.other (by omega)) ?_
            try go_simp
            refine hK _ _ ?_
            clear hK K
            refine wpAny_ready (rs := [7]) (by kernel_rfl) (by simp) ?_
            refine AllReady.cons rfl (fun K hK => ?_) ?_
            · go_simp
              refine hK _ _ ?_
              clear hK K
              refine wpAny_done (by kernel_rfl) ?_ _
              go_wp2_with fail
              have hr1 := run_blk FR.out rfl
              have hr2 := run_blk FS.out rfl
              refine bodyPost_ret (v := .tuple #[exV un (.slice a3 l3 c3), (.int .i64 0), exV un (.slice a4 l4 c4), (.int .i64 0)]) (by simp [results, Try.results7, asAddr, hr1, hr2]; try rfl) rfl ?_
              obtain ⟨f1, f2⟩ := call_fin (ca := exC un (.slice a3 l3 c3)) (cb := exC un (.slice a4 l4 c4)) Z0.out hN.out hb1.out.size hb2.out hGh.out hT.out K3.out L3.out
              exact .inr ⟨he, _, _, _, _, _, _, _, rfl, f1, f2, FB.out⟩
            exact AllReady.nil
          exact AllReady.nil
        exact AllReady.nil
      exact AllReady.nil
    exact AllReady.nil
  exact AllReady.nil
set_option maxHeartbeats 4000000 in
set_option maxRecDepth 100000 in
theorem call_1f (K M N : Int) (u : Ex) (n1 n2 : Nd) (a1 a2 : Option Addr) (l1 c1 l2 c2 : Nat) (w : World) (h1 : Tree w (exV n1 (.slice a1 l1 c1)) u) (G : Nat) (hG : G ≤ w.heap.size) (h2 : In (· < G) w (exV n2 (.slice a2 l2 c2)) u) (k1 : (K == 1) = true) (he : mayR u ≠ 0) :
    Calls Try.prog 7 #[.agg (opX K M N n2 (.slice a2 l2 c2)), exV n1 (.slice a1 l1 c1)] w fun e w' => ClP G w (mayR u) (movE (pasR M N) u) e w' := by
  have OB := hide ((((Blk.new w (opX K M N n2 (.slice a2 l2 c2)) 39).alloc (exO n1 (.slice a1 l1 c1))).alloc (.cells #[.int .i64 0, .int .i64 0, .int .i64 0, .string { data := #[] }, .int .i64 0, .int .i64 0, .bool false, .bool false, .int .i64 0, .int .i64 0, .bool false, .bool false, .int .i64 0, .slice none 0 0] 37)).alloc (.cells #[.int .i64 0, .int .i64 0, .int .i64 0, .string { data := #[] }, .int .i64 0, .int .i64 0, .bool false, .bool false, .int .i64 0, .int .i64 0, .bool false, .bool false, .int .i64 0, .slice none 0 0] 37))
  have TB := hide (((Blk.new1 w (.cells (opX K M N n2 (.slice a2 l2 c2)) 39) (exC n1 (.slice a1 l1 c1)) 37).alloc (.cells #[.int .i64 0, .int .i64 0, .int .i64 0, .string { data := #[] }, .int .i64 0, .int .i64 0, .bool false, .bool false, .int .i64 0, .int .i64 0, .bool false, .bool false, .int .i64 0, .slice none 0 0] 37)).alloc (.cells #[.int .i64 0, .int .i64 0, .int .i64 0, .string { data := #[] }, .int .i64 0, .int .i64 0, .bool false, .bool false, .int .i64 0, .int .i64 0, .bool false, .bool false, .int .i64 0, .slice none 0 0] 37))
  have RB : Hid (Blk ((((w.alloc (.cells (opX K M N n2 (.slice a2 l2 c2)) 39)).alloc (exO n1 (.slice a1 l1 c1))).alloc (.cells #[.int .i64 0, .int .i64 0, .int .i64 0, .string { data := #[] }, .int .i64 0, .int .i64 0, .bool false, .bool false, .int .i64 0, .int .i64 0, .bool false, .bool false, .int .i64 0, .slice none 0 0] 37)).alloc (.cells #[.int .i64 0, .int .i64 0, .int .i64 0, .string { data := #[] }, .int .i64 0, .int .i64 0, .bool false, .bool false, .int .i64 0, .int .i64 0, .bool false, .bool false, .int .i64 0, .slice none 0 0] 37)) (w.heap.size + 1 + 1) (exC nd0 (.slice none 0 0)) 37) := hide ((Blk.new2 w (.cells (opX K M N n2 (.slice a2 l2 c2)) 39) (exO n1 (.slice a1 l1 c1)) (exC nd0 (.slice none 0 0)) 37).alloc (.cells #[.int .i64 0, .int .i64 0, .int .i64 0, .string { data := #[] }, .int .i64 0, .int .i64 0, .bool false, .bool false, .int .i64 0, .int .i64 0, .bool false, .bool false, .int .i64 0, .slice none 0 0] 37))
  have SB : Hid (Blk ((((w.alloc (.cells (opX K M N n2 (.slice a2 l2 c2)) 39)).alloc (exO n1 (.slice a1 l1 c1))).alloc (.cells #[.int .i64 0, .int .i64 0, .int .i64 0, .string { data := #[] }, .int .i64 0, .int .i64 0, .bool false, .bool false, .int .i64 0, .int .i64 0, .bool false, .bool false, .int .i64 0, .slice none 0 0] 37)).alloc (.cells #[.int .i64 0, .int .i64 0, .int .i64 0, .string { data := #[] }, .int .i64 0, .int .i64 0, .bool false, .bool false, .int .i64 0, .int .i64 0, .bool false, .bool false, .int .i64 0, .slice none 0 0] 37)) (w.heap.size + 1 + 1 + 1) (exC nd0 (.slice none 0 0)) 37) := hide (Blk.new3 w (.cells (opX K M N n2 (.slice a2 l2 c2)) 39) (exO n1 (.slice a1 l1 c1)) (.cells #[.int .i64 0, .int .i64 0, .int .i64 0, .string { data := #[] }, .int .i64 0, .int .i64 0, .bool false, .bool false, .int .i64 0, .int .i64 0, .bool false, .bool false, .int .i64 0, .slice none 0 0] 37) (exC nd0 (.slice none 0 0)) 37)
  have B0 := hide (step (step (step (step (Below.refl w.heap.size w) (.cells (opX K M N n2 (.slice a2 l2 c2)) 39)) (exO n1 (.slice a1 l1 c1))) (.cells #[.int .i64 0, .int .i64 0, .int .i64 0, .string { data := #[] }, .int .i64 0, .int .i64 0, .bool false, .bool false, .int .i64 0, .int .i64 0, .bool false, .bool false, .int .i64 0, .slice none 0 0] 37)) (.cells #[.int .i64 0, .int .i64 0, .int .i64 0, .string { data := #[] }, .int .i64 0, .int .i64 0, .bool false, .bool false, .int .i64 0, .int .i64 0, .bool false, .bool false, .int .i64 0, .slice none 0 0] 37))
  have Z0 : Hid (((((w.alloc (.cells (opX K M N n2 (.slice a2 l2 c2)) 39)).alloc (exO n1 (.slice a1 l1 c1))).alloc (.cells #[.int .i64 0, .int .i64 0, .int .i64 0, .string { data := #[] }, .int .i64 0, .int .i64 0, .bool false, .bool false, .int .i64 0, .int .i64 0, .bool false, .bool false, .int .i64 0, .slice none 0 0] 37)).alloc (.cells #[.int .i64 0, .int .i64 0, .int .i64 0, .string { data := #[] }, .int .i64 0, .int .i64 0, .bool false, .bool false, .int .i64 0, .int .i64 0, .bool false, .bool false, .int .i64 0, .slice none 0 0] 37)).heap.size = w.heap.size + 1 + 1 + 1 + 1) := hide (by simp)
  obtain ⟨w0, hw0⟩ : ∃ w0, ((((w.alloc (.cells (opX K M N n2 (.slice a2 l2 c2)) 39)).alloc (exO n1 (.slice a1 l1 c1))).alloc (.cells #[.int .i64 0, .int .i64 0, .int .i64 0, .string { data := #[] }, .int .i64 0, .int .i64 0, .bool false, .bool false, .int .i64 0, .int .i64 0, .bool false, .bool false, .int .i64 0, .slice none 0 0] 37)).alloc (.cells #[.int .i64 0, .int .i64 0, .int .i64 0, .string { data := #[] }, .int .i64 0, .int .i64 0, .bool false, .bool false, .int .i64 0, .int .i64 0, .bool false, .bool false, .int .i64 0, .slice none 0 0] 37)) = w0 := ⟨_, rfl⟩
  rw [hw0] at OB TB RB SB B0 Z0
  have HA := hide (paste_any u _ M N w0 (h1.step B0.out))
  have HB := hide (fun w' (h : Below w.heap.size w w') => rpaste_any u _ M N G w' (Nat.le_trans hG h.size) (In.move (fun k hk => ⟨hk, h.block k (Nat.lt_of_lt_of_le hk hG)⟩) u h2))
  obtain ⟨m0, m15, m16⟩ := opX_c OB.out
  obtain ⟨un, uk, hu⟩ : ∃ un uk, movE (pasR M N) u = .mk un uk := by cases movE (pasR M N) u; exact ⟨_, _, rfl⟩
  rw [hu] at HA HB ⊢
  have hGh := hide hG
  clear hu h1 h2 hG
  go_enter Try.func7, Try.ntmps7
  go_wp2_with (refine wpList_load_blk rfl 37 _ rfl _ rfl _ (by with_reducible exact TB.out) _ Try.underlying37 rfl (exC_info _ _) ?_)
  clear hw0
  refine HA.out.mono ?_
  intro e w1 hh
  obtain ⟨rfl, hb⟩ : e = .returned (.tuple #[exV nd0 (.slice none 0 0), .int .i64 (mayR u)]) ∧ Below w0.heap.size w0 w1 := by
    rcases hh with ⟨_, q⟩ | ⟨q, _⟩
    · exact q
    · exact absurd q he
  clear hh m0 m15 m16
  have hb1 := hide hb
  have B1 := hide (step (next B0.out hb) (exO nd0 (.slice none 0 0)))
  have OB1 : Hid (Blk (w1.alloc (exO nd0 (.slice none 0 0))) w.heap.size (opX K M N n2 (.slice a2 l2 c2)) 39) := hide ((OB.out.keep hb).alloc _)
  have RB1 : Hid (Blk (w1.alloc (exO nd0 (.slice none 0 0))) (w.heap.size + 1 + 1) (exC nd0 (.slice none 0 0)) 37) := hide ((RB.out.keep hb).alloc _)
  have SB1 : Hid (Blk (w1.alloc (exO nd0 (.slice none 0 0))) (w.heap.size + 1 + 1 + 1) (exC nd0 (.slice none 0 0)) 37) := hide ((SB.out.keep hb).alloc _)
  have AB1 : Hid (Blk (w1.alloc (exO nd0 (.slice none 0 0))) w1.heap.size (exC nd0 (.slice none 0 0)) 37) := hide (Blk.new w1 _ _)
  have R1 := hide (opX_rng OB1.out)
  obtain ⟨m0, m15, m16⟩ := opX_c OB1.out
  have hsn1 := run_putnew w1 nd0 none 0 0
  clear hb OB TB RB SB
  go_wp2_with (refine wpList_load_at rfl 37 _ rfl _ _ rfl _ _ (by with_reducible exact R1.out) Try.underlying37 rfl (exC_info _ _) ?_)
  refine (HB.out _ B1.out).mono ?_
  intro e w2 hh
  obtain ⟨rfl, hb⟩ : e = .returned (.tuple #[exV nd0 (.slice none 0 0), .int .i64 (mayR u)]) ∧ Below (w1.alloc (exO nd0 (.slice none 0 0))).heap.size (w1.alloc (exO nd0 (.slice none 0 0))) w2 := by
    rcases hh with ⟨_, q⟩ | ⟨q, _⟩
    · exact q
    · exact absurd q he
  clear hh m0 m15 m16
  have hb2 := hide hb
  have B2 := hide (step (next B1.out hb) (exO nd0 (.slice none 0 0)))
  have RB2 : Hid (Blk (w2.alloc (exO nd0 (.slice none 0 0))) (w.heap.size + 1 + 1) (exC nd0 (.slice none 0 0)) 37) := hide ((RB1.out.keep hb).alloc _)
  have SB2 : Hid (Blk (w2.alloc (exO nd0 (.slice none 0 0))) (w.heap.size + 1 + 1 + 1) (exC nd0 (.slice none 0 0)) 37) := hide ((SB1.out.keep hb).alloc _)
  have AB2 : Hid (Blk (w2.alloc (exO nd0 (.slice none 0 0))) w1.heap.size (exC nd0 (.slice none 0 0)) 37) := hide ((AB1.out.keep hb).alloc _)
  have BB2 : Hid (Blk (w2.alloc (exO nd0 (.slice none 0 0))) w2.heap.size (exC nd0 (.slice none 0 0)) 37) := hide (Blk.new w2 _ _)
  have hsn2 := run_putnew w2 nd0 none 0 0
  clear hb OB1 RB1 SB1 AB1 R1 hsn1
  go_wp2_with fail
  have Z3 : Hid (w.heap.size + 1 + 1 + 1 + 1 ≤ w1.heap.size ∧ w1.heap.size + 1 ≤ w2.heap.size) := hide ⟨by have := hb1.out.size; have := Z0.out; omega, by have := hb2.out.size; simp at this; omega⟩
  have K3 : Hid (∀ k, k < w2.heap.size → (w2.alloc (exO nd0 (.slice none 0 0))).heap[k]? = w2.heap[k]?) := hide (fun k hk => Below.heap_alloc _ _ k hk)
  have L3 : Hid ((w2.alloc (exO nd0 (.slice none 0 0))).heap.size = w2.heap.size + 1) := hide (by simp)
  clear hsn2
  generalize hw3 : w2.alloc (exO nd0 (.slice none 0 0)) = w3 at *
  clear hw3
  replace RB2 : Hid (Blk w3.drew (w.heap.size + 1 + 1) (exC nd0 (.slice none 0 0)) 37) := RB2
  replace SB2 : Hid (Blk w3.drew (w.heap.size + 1 + 1 + 1) (exC nd0 (.slice none 0 0)) 37) := SB2
  replace AB2 : Hid (Blk w3.drew w1.heap.size (exC nd0 (.slice none 0 0)) 37) := AB2
  replace BB2 : Hid (Blk w3.drew w2.heap.size (exC nd0 (.slice none 0 0)) 37) := BB2
  refine wp_region_any (by kernel_rfl) ?_
  change wpAny _ _ _ _ _ _ _ (World.drew _)
  have FR : Hid (Blk ((w3.drew.setRow (w.heap.size + 1 + 1) (exC nd0 (.slice none 0 0))).setRow (w.heap.size + 1 + 1 + 1) (exC nd0 (.slice none 0 0))) (w.heap.size + 1 + 1) (exC nd0 (.slice none 0 0)) 37) := hide (RB2.out.setRow.other (by omega))
  have FS : Hid (Blk ((w3.drew.setRow (w.heap.size + 1 + 1) (exC nd0 (.slice none 0 0))).setRow (w.heap.size + 1 + 1 + 1) (exC nd0 (.slice none 0 0))) (w.heap.size + 1 + 1 + 1) (exC nd0 (.slice none 0 0)) 37) := hide (Blk.setRow (SB2.out.other (by omega)))
  have FB : Hid (Below w.heap.size w ((w3.drew.setRow (w.heap.size + 1 + 1) (exC nd0 (.slice none 0 0))).setRow (w.heap.size + 1 + 1 + 1) (exC nd0 (.slice none 0 0)))) := hide (below_setRow (below_setRow B2.out.drew (by omega) _) (by omega) _)
  refine wpAny_take (i := 1) (v := (.int .i64 (mayR u))) rfl (by kernel_rfl) (by kernel_rfl) (by kernel_rfl) (fun _ _ _ h => h) (Or.inl ⟨by rfl, by intro w; go_simp⟩) ?_
  refine wpAny_take (i := 3) (v := (.int .i64 (mayR u))) rfl (by kernel_rfl) (by kernel_rfl) (by kernel_rfl) (fun _ _ _ h => h) (Or.inl ⟨by rfl, by intro w; go_simp⟩) ?_
  refine wpAny_ready (rs := [0, 2]) (by kernel_rfl) (by simp) ?_
  refine AllReady.cons rfl (fun K hK => ?_) ?_
  · refine step_load rfl _ rfl _ rfl nd0 (.slice none 0 0) (by with_reducible exact AB2.out) ?_
    try go_simp
    refine hK _ _ ?_
    clear hK K
    refine wpAny_ready (rs := [2, 4]) (by kernel_rfl) (by simp) ?_
    refine AllReady.cons rfl (fun K hK => ?_) ?_
    · refine step_load rfl _ rfl _ rfl nd0 (.slice none 0 0) (by with_reducible first | exact BB2.out | exact BB2.out.other (by have := Z3.out; omega)) ?_
      try go_simp
      refine hK _ _ ?_
      clear hK K
      refine wpAny_ready (rs := [4]) (by kernel_rfl) (by simp) ?_
      refine AllReady.cons rfl (fun K hK => ?_) ?_
      · refine step_store rfl _ _ rfl _ rfl nd0 _ _ _ (rfl : _ = exV nd0 (.slice none 0 0)) _ _ (by with_reducible exact RB2.out) ?_
        try go_simp
        refine hK _ _ ?_
        clear hK K
        refine wpAny_ready (rs := [5]) (by kernel_rfl) (by simp) ?_
        refine AllReady.cons rfl (fun K hK => ?_) ?_
        · go_simp
          refine hK _ _ ?_
          clear hK K
          refine wpAny_ready (rs := [6]) (by kernel_rfl) (by simp) ?_
          refine AllReady.cons rfl (fun K hK => ?_) ?_
          · refine step_store rfl _ _ rfl _ rfl nd0 _ _ _ (rfl : _ = exV nd0 (.slice none 0 0)) _ _ (by with_reducible exact SB2.out.other (by omega)) ?_
            try go_simp
            refine hK _ _ ?_
            clear hK K
            refine wpAny_ready (rs := [7]) (by kernel_rfl) (by simp) ?_
            refine AllReady.cons rfl (fun K hK => ?_) ?_
            · go_simp
              refine hK _ _ ?_
              clear hK K
              refine wpAny_done (by kernel_rfl) ?_ _
              go_wp2_with fail
              have hr1 := run_blk FR.out rfl
              have hr2 := run_blk FS.out rfl
              refine bodyPost_ret (v := .tuple #[exV nd0 (.slice none 0 0), (.int .i64 (mayR u)), exV nd0 (.slice none 0 0), (.int .i64 (mayR u))]) (by simp [results, Try.results7, asAddr, hr1, hr2]; try rfl) rfl ?_
              exact .inl ⟨he, rfl, FB.out⟩
            exact AllReady.nil
          exact AllReady.nil
        exact AllReady.nil
      exact AllReady.nil
    refine AllReady.cons rfl (fun K hK => ?_) ?_
    · refine step_store rfl _ _ rfl _ rfl nd0 _ _ _ (rfl : _ = exV nd0 (.slice none 0 0)) _ _ (by with_reducible exact RB2.out) ?_
      try go_simp
      refine hK _ _ ?_
      clear hK K
      refine wpAny_ready (rs := [2, 5]) (by kernel_rfl) (by simp) ?_
      refine AllReady.cons rfl (fun K hK => ?_) ?_
      · refine step_load rfl _ rfl _ rfl nd0 (.slice none 0 0) (by with_reducible first | exact BB2.out | exact BB2.out.other (by have := Z3.out; omega)) ?_
        try go_simp
        refine hK _ _ ?_
        clear hK K
        refine wpAny_ready (rs := [5]) (by kernel_rfl) (by simp) ?_
        refine AllReady.cons rfl (fun K hK => ?_) ?_
        · go_simp
          refine hK _ _ ?_
          clear hK K
          refine wpAny_ready (rs := [6]) (by kernel_rfl) (by simp) ?_
          refine AllReady.cons rfl (fun K hK => ?_) ?_
          · refine step_store rfl _ _ rfl _ rfl nd0 _ _ _ (rfl : _ = exV nd0 (.slice none 0 0)) _ _ (by with_reducible exact SB2.out.other (by omega)) ?_
            try go_simp
            refine hK _ _ ?_
            clear hK K
            refine wpAny_ready (rs := [7]) (by kernel_rfl) (by simp) ?_
            refine AllReady.cons rfl (fun K hK => ?_) ?_
            · go_simp
              refine hK _ _ ?_
              clear hK K
              refine wpAny_done (by kernel_rfl) ?_ _
              go_wp2_with fail
              have hr1 := run_blk FR.out rfl
              have hr2 := run_blk FS.out rfl
              refine bodyPost_ret (v := .tuple #[exV nd0 (.slice none 0 0), (.int .i64 (mayR u)), exV nd0 (.slice none 0 0), (.int .i64 (mayR u))]) (by simp [results, Try.results7, asAddr, hr1, hr2]; try rfl) rfl ?_
              exact .inl ⟨he, rfl, FB.out⟩
            exact AllReady.nil
          exact AllReady.nil
        exact AllReady.nil
      refine AllReady.cons rfl (fun K hK => ?_) ?_
      · go_simp
        refine hK _ _ ?_
        clear hK K
        refine wpAny_ready (rs := [2]) (by kernel_rfl) (by simp) ?_
        refine AllReady.cons rfl (fun K hK => ?_) ?_
        · refine step_load rfl _ rfl _ rfl nd0 (.slice none 0 0) (by with_reducible first | exact BB2.out | exact BB2.out.other (by have := Z3.out; omega)) ?_
          try go_simp
          refine hK _ _ ?_
          clear hK K
          refine wpAny_ready (rs := [6]) (by kernel_rfl) (by simp) ?_
          refine AllReady.cons rfl (fun K hK => ?_) ?_
          · refine step_store rfl _ _ rfl _ rfl nd0 _ _ _ (rfl : _ = exV nd0 (.slice none 0 0)) _ _ (by with_reducible exact SB2.out.other (by omega)) ?_
            try go_simp
            refine hK _ _ ?_
            clear hK K
            refine wpAny_ready (rs := [7]) (by kernel_rfl) (by simp) ?_
            refine AllReady.cons rfl (fun K hK => ?_) ?_
            · go_simp
              refine hK _ _ ?_
              clear hK K
              refine wpAny_done (by kernel_rfl) ?_ _
              go_wp2_with fail
              have hr1 := run_blk FR.out rfl
              have hr2 := run_blk FS.out rfl
              refine bodyPost_ret (v := .tuple #[exV nd0 (.slice none 0 0), (.int .i64 (mayR u)), exV nd0 (.slice none 0 0), (.int .i64 (mayR u))]) (by simp [results, Try.results7, asAddr, hr1, hr2]; try rfl) rfl ?_
              exact .inl ⟨he, rfl, FB.out⟩
            exact AllReady.nil
          exact AllReady.nil
        exact AllReady.nil
      exact AllReady.nil
    exact AllReady.nil
  refine AllReady.cons rfl (fun K hK => ?_) ?_
  · refine step_load rfl _ rfl _ rfl nd0 (.slice none 0 0) (by with_reducible first | exact BB2.out | exact BB2.out.other (by have := Z3.out; omega)) ?_
    try go_simp
    refine hK _ _ ?_
    clear hK K
    refine wpAny_ready (rs := [0]) (by kernel_rfl) (by simp) ?_
    refine AllReady.cons rfl (fun K hK => ?_) ?_
    · refine step_load rfl _ rfl _ rfl nd0 (.slice none 0 0) (by with_reducible exact AB2.out) ?_
      try go_simp
      refine hK _ _ ?_
      clear hK K
      refine wpAny_ready (rs := [4]) (by kernel_rfl) (by simp) ?_
      refine AllReady.cons rfl (fun K hK => ?_) ?_
      · refine step_store rfl _ _ rfl _ rfl nd0 _ _ _ (rfl : _ = exV nd0 (.slice none 0 0)) _ _ (by with_reducible exact RB2.out) ?_
        try go_simp
        refine hK _ _ ?_
        clear hK K
        refine wpAny_ready (rs := [5]) (by kernel_rfl) (by simp) ?_
        refine AllReady.cons rfl (fun K hK => ?_) ?_
        · go_simp
          refine hK _ _ ?_
          clear hK K
          refine wpAny_ready (rs := [6]) (by kernel_rfl) (by simp) ?_
          refine AllReady.cons rfl (fun K hK => ?_) ?_
          · refine step_store rfl _ _ rfl _ rfl nd0 _ _ _ (rfl : _ = exV nd0 (.slice none 0 0)) _ _ (by with_reducible exact SB2.out.other (by omega)) ?_
            try go_simp
            refine hK _ _ ?_
            clear hK K
            refine wpAny_ready (rs := [7]) (by kernel_rfl) (by simp) ?_
            refine AllReady.cons rfl (fun K hK => ?_) ?_
            · go_simp
              refine hK _ _ ?_
              clear hK K
              refine wpAny_done (by kernel_rfl) ?_ _
              go_wp2_with fail
              have hr1 := run_blk FR.out rfl
              have hr2 := run_blk FS.out rfl
              refine bodyPost_ret (v := .tuple #[exV nd0 (.slice none 0 0), (.int .i64 (mayR u)), exV nd0 (.slice none 0 0), (.int .i64 (mayR u))]) (by simp [results, Try.results7, asAddr, hr1, hr2]; try rfl) rfl ?_
              exact .inl ⟨he, rfl, FB.out⟩
            exact AllReady.nil
          exact AllReady.nil
        exact AllReady.nil
      exact AllReady.nil
    exact AllReady.nil
  exact AllReady.nil
set_option maxHeartbeats 4000000 in
set_option maxRecDepth 100000 in
theorem call_2t (K M N : Int) (u : Ex) (n1 n2 : Nd) (a1 a2 : Option Addr) (l1 c1 l2 c2 : Nat) (w : World) (h1 : Tree w (exV n1 (.slice a1 l1 c1)) u) (G : Nat) (hG : G ≤ w.heap.size) (h2 : In (· < G) w (exV n2 (.slice a2 l2 c2)) u) (k1 : (K == 1) = false) (k2 : (K == 2) = true) (he : spotR u M 0 = 0) :
    Calls Try.prog 7 #[.agg (opX K M N n2 (.slice a2 l2 c2)), exV n1 (.slice a1 l1 c1)] w fun e w' => ClP G w (spotR u M 0) (movE (rowR M N) u) e w' := by
  have OB := hide ((((Blk.new w (opX K M N n2 (.slice a2 l2 c2)) 39).alloc (exO n1 (.slice a1 l1 c1))).alloc (.cells #[.int .i64 0, .int .i64 0, .int .i64 0, .string { data := #[] }, .int .i64 0, .int .i64 0, .bool false, .bool false, .int .i64 0, .int .i64 0, .bool false, .bool false, .int .i64 0, .slice none 0 0] 37)).alloc (.cells #[.int .i64 0, .int .i64 0, .int .i64 0, .string { data := #[] }, .int .i64 0, .int .i64 0, .bool false, .bool false, .int .i64 0, .int .i64 0, .bool false, .bool false, .int .i64 0, .slice none 0 0] 37))
  have TB := hide (((Blk.new1 w (.cells (opX K M N n2 (.slice a2 l2 c2)) 39) (exC n1 (.slice a1 l1 c1)) 37).alloc (.cells #[.int .i64 0, .int .i64 0, .int .i64 0, .string { data := #[] }, .int .i64 0, .int .i64 0, .bool false, .bool false, .int .i64 0, .int .i64 0, .bool false, .bool false, .int .i64 0, .slice none 0 0] 37)).alloc (.cells #[.int .i64 0, .int .i64 0, .int .i64 0, .string { data := #[] }, .int .i64 0, .int .i64 0, .bool false, .bool false, .int .i64 0, .int .i64 0, .bool false, .bool false, .int .i64 0, .slice none 0 0] 37))
  have RB : Hid (Blk ((((w.alloc (.cells (opX K M N n2 (.slice a2 l2 c2)) 39)).alloc (exO n1 (.slice a1 l1 c1))).alloc (.cells #[.int .i64 0, .int .i64 0, .int .i64 0, .string { data := #[] }, .int .i64 0, .int .i64 0, .bool false, .bool false, .int .i64 0, .int .i64 0, .bool false, .bool false, .int .i64 0, .slice none 0 0] 37)).alloc (.cells #[.int .i64 0, .int .i64 0, .int .i64 0, .string { data := #[] }, .int .i64 0, .int .i64 0, .bool false, .bool false, .int .i64 0, .int .i64 0, .bool false, .bool false, .int .i64 0, .slice none 0 0] 37)) (w.heap.size + 1 + 1) (exC nd0 (.slice none 0 0)) 37) := hide ((Blk.new2 w (.cells (opX K M N n2 (.slice a2 l2 c2)) 39) (exO n1 (.slice a1 l1 c1)) (exC nd0 (.slice none 0 0)) 37).alloc (.cells #[.int .i64 0, .int .i64 0, .int .i64 0, .string { data := #[] }, .int .i64 0, .int .i64 0, .bool false, .bool false, .int .i64 0, .int .i64 0, .bool false, .bool false, .int .i64 0, .slice none 0 0] 37))
  have SB : Hid (Blk ((((w.alloc (.cells (opX K M N n2 (.slice a2 l2 c2)) 39)).alloc (exO n1 (.slice a1 l1 c1))).alloc (.cells #[.int .i64 0, .int .i64 0, .int .i64 0, .string { data := #[] }, .int .i64 0, .int .i64 0, .bool false, .bool false, .int .i64 0, .int .i64 0, .bool false, .bool false, .int .i64 0, .slice none 0 0] 37)).alloc (.cells #[.int .i64 0, .int .i64 0, .int .i64 0, .string { data := #[] }, .int .i64 0, .int .i64 0, .bool false, .bool false, .int .i64 0, .int .i64 0, .bool false, .bool false, .int .i64 0, .slice none 0 0] 37)) (w.heap.size + 1 + 1 + 1) (exC nd0 (.slice none 0 0)) 37) := hide (Blk.new3 w (.cells (opX K M N n2 (.slice a2 l2 c2)) 39) (exO n1 (.slice a1 l1 c1)) (.cells #[.int .i64 0, .int .i64 0, .int .i64 0, .string { data := #[] }, .int .i64 0, .int .i64 0, .bool false, .bool false, .int .i64 0, .int .i64 0, .bool false, .bool false, .int .i64 0, .slice none 0 0] 37) (exC nd0 (.slice none 0 0)) 37)
  have B0 := hide (step (step (step (step (Below.refl w.heap.size w) (.cells (opX K M N n2 (.slice a2 l2 c2)) 39)) (exO n1 (.slice a1 l1 c1))) (.cells #[.int .i64 0, .int .i64 0, .int .i64 0, .string { data := #[] }, .int .i64 0, .int .i64 0, .bool false, .bool false, .int .i64 0, .int .i64 0, .bool false, .bool false, .int .i64 0, .slice none 0 0] 37)) (.cells #[.int .i64 0, .int .i64 0, .int .i64 0, .string { data := #[] }, .int .i64 0, .int .i64 0, .bool false, .bool false, .int .i64 0, .int .i64 0, .bool false, .bool false, .int .i64 0, .slice none 0 0] 37))
  have Z0 : Hid (((((w.alloc (.cells (opX K M N n2 (.slice a2 l2 c2)) 39)).alloc (exO n1 (.slice a1 l1 c1))).alloc (.cells #[.int .i64 0, .int .i64 0, .int .i64 0, .string { data := #[] }, .int .i64 0, .int .i64 0, .bool false, .bool false, .int .i64 0, .int .i64 0, .bool false, .bool false, .int .i64 0, .slice none 0 0] 37)).alloc (.cells #[.int .i64 0, .int .i64 0, .int .i64 0, .string { data := #[] }, .int .i64 0, .int .i64 0, .bool false, .bool false, .int .i64 0, .int .i64 0, .bool false, .bool false, .int .i64 0, .slice none 0 0] 37)).heap.size = w.heap.size + 1 + 1 + 1 + 1) := hide (by simp)
  obtain ⟨w0, hw0⟩ : ∃ w0, ((((w.alloc (.cells (opX K M N n2 (.slice a2 l2 c2)) 39)).alloc (exO n1 (.slice a1 l1 c1))).alloc (.cells #[.int .i64 0, .int .i64 0, .int .i64 0, .string { data := #[] }, .int .i64 0, .int .i64 0, .bool false, .bool false, .int .i64 0, .int .i64 0, .bool false, .bool false, .int .i64 0, .slice none 0 0] 37)).alloc (.cells #[.int .i64 0, .int .i64 0, .int .i64 0, .string { data := #[] }, .int .i64 0, .int .i64 0, .bool false, .bool false, .int .i64 0, .int .i64 0, .bool false, .bool false, .int .i64 0, .slice none 0 0] 37)) = w0 := ⟨_, rfl⟩
  rw [hw0] at OB TB RB SB B0 Z0
  have HA := hide (rows_any u _ M N w0 (h1.step B0.out))
  have HB := hide (fun w' (h : Below w.heap.size w w') => rrows_any u _ M N G w' (Nat.le_trans hG h.size) (In.move (fun k hk => ⟨hk, h.block k (Nat.lt_of_lt_of_le hk hG)⟩) u h2))
  obtain ⟨m0, m15, m16⟩ := opX_c OB.out
  obtain ⟨un, uk, hu⟩ : ∃ un uk, movE (rowR M N) u = .mk un uk := by cases movE (rowR M N) u; exact ⟨_, _, rfl⟩
  rw [hu] at HA HB ⊢
  have hGh := hide hG
  clear hu h1 h2 hG
  go_enter Try.func7, Try.ntmps7
  go_wp2_with (refine wpList_load_blk rfl 37 _ rfl _ rfl _ (by with_reducible exact TB.out) _ Try.underlying37 rfl (exC_info _ _) ?_)
  clear hw0
  refine HA.out.mono ?_
  intro e w1 hh
  obtain ⟨a3, l3, c3, bs, rfl, hN, hb⟩ : ∃ a len cap bs, e = .returned (.tuple #[exV un (.slice a len cap), .int .i64 0]) ∧ New w0 w1 (exV un (.slice a len cap)) (.mk un uk) bs ∧ Below w0.heap.size w0 w1 := by
    rcases hh with ⟨q, _⟩ | ⟨_, q⟩
    · exact absurd he q
    · exact q
  replace hN := hide hN
  have ev : .int .i64 0 = Value.int .i64 0 := rfl
  clear hh m0 m15 m16
  have hb1 := hide hb
  have B1 := hide (step (next B0.out hb) (exO un (.slice a3 l3 c3)))
  have OB1 : Hid (Blk (w1.alloc (exO un (.slice a3 l3 c3))) w.heap.size (opX K M N n2 (.slice a2 l2 c2)) 39) := hide ((OB.out.keep hb).alloc _)
  have RB1 : Hid (Blk (w1.alloc (exO un (.slice a3 l3 c3))) (w.heap.size + 1 + 1) (exC nd0 (.slice none 0 0)) 37) := hide ((RB.out.keep hb).alloc _)
  have SB1 : Hid (Blk (w1.alloc (exO un (.slice a3 l3 c3))) (w.heap.size + 1 + 1 + 1) (exC nd0 (.slice none 0 0)) 37) := hide ((SB.out.keep hb).alloc _)
  have AB1 : Hid (Blk (w1.alloc (exO un (.slice a3 l3 c3))) w1.heap.size (exC un (.slice a3 l3 c3)) 37) := hide (Blk.new w1 _ _)
  have R1 := hide (opX_rng OB1.out)
  obtain ⟨m0, m15, m16⟩ := opX_c OB1.out
  have hsn1 := run_putnew w1 un a3 l3 c3
  clear hb OB TB RB SB
  go_wp2_with (refine wpList_load_at rfl 37 _ rfl _ _ rfl _ _ (by with_reducible exact R1.out) Try.underlying37 rfl (exC_info _ _) ?_)
  refine (HB.out _ B1.out).mono ?_
  intro e w2 hh
  obtain ⟨a4, l4, c4, rfl, hT, hb⟩ : ∃ a len cap, e = .returned (.tuple #[exV un (.slice a len cap), .int .i64 0]) ∧ In (OldN G (w1.alloc (exO un (.slice a3 l3 c3))).heap.size w2.heap.size) w2 (exV un (.slice a len cap)) (.mk un uk) ∧ Below (w1.alloc (exO un (.slice a3 l3 c3))).heap.size (w1.alloc (exO un (.slice a3 l3 c3))) w2 := by
    rcases hh with ⟨q, _⟩ | ⟨_, q⟩
    · exact absurd he q
    · exact q
  replace hT := hide hT
  clear hh m0 m15 m16
  have hb2 := hide hb
  have B2 := hide (step (next B1.out hb) (exO un (.slice a4 l4 c4)))
  have RB2 : Hid (Blk (w2.alloc (exO un (.slice a4 l4 c4))) (w.heap.size + 1 + 1) (exC nd0 (.slice none 0 0)) 37) := hide ((RB1.out.keep hb).alloc _)
  have SB2 : Hid (Blk (w2.alloc (exO un (.slice a4 l4 c4))) (w.heap.size + 1 + 1 + 1) (exC nd0 (.slice none 0 0)) 37) := hide ((SB1.out.keep hb).alloc _)
  have AB2 : Hid (Blk (w2.alloc (exO un (.slice a4 l4 c4))) w1.heap.size (exC un (.slice a3 l3 c3)) 37) := hide ((AB1.out.keep hb).alloc _)
  have BB2 : Hid (Blk (w2.alloc (exO un (.slice a4 l4 c4))) w2.heap.size (exC un (.slice a4 l4 c4)) 37) := hide (Blk.new w2 _ _)
  have hsn2 := run_putnew w2 un a4 l4 c4
  clear hb OB1 RB1 SB1 AB1 R1 hsn1
  go_wp2_with fail
  have Z3 : Hid (w.heap.size + 1 + 1 + 1 + 1 ≤ w1.heap.size ∧ w1.heap.size + 1 ≤ w2.heap.size) := hide ⟨by have := hb1.out.size; have := Z0.out; omega, by have := hb2.out.size; simp at this; omega⟩
  have K3 : Hid (∀ k, k < w2.heap.size → (w2.alloc (exO un (.slice a4 l4 c4))).heap[k]? = w2.heap[k]?) := hide (fun k hk => Below.heap_alloc _ _ k hk)
  have L3 : Hid ((w2.alloc (exO un (.slice a4 l4 c4))).heap.size = w2.heap.size + 1) := hide (by simp)
  clear hsn2
  generalize hw3 : w2.alloc (exO un (.slice a4 l4 c4)) = w3 at *
  clear hw3
  replace RB2 : Hid (Blk w3.drew (w.heap.size + 1 + 1) (exC nd0 (.slice none 0 0)) 37) := RB2
  replace SB2 : Hid (Blk w3.drew (w.heap.size + 1 + 1 + 1) (exC nd0 (.slice none 0 0)) 37) := SB2
  replace AB2 : Hid (Blk w3.drew w1.heap.size (exC un (.slice a3 l3 c3)) 37) := AB2
  replace BB2 : Hid (Blk w3.drew w2.heap.size (exC un (.slice a4 l4 c4)) 37) := BB2
  refine wp_region_any (by kernel_rfl) ?_
  change wpAny _ _ _ _ _ _ _ (World.drew _)
  have FR : Hid (Blk ((w3.drew.setRow (w.heap.size + 1 + 1) (exC un (.slice a3 l3 c3))).setRow (w.heap.size + 1 + 1 + 1) (exC un (.slice a4 l4 c4))) (w.heap.size + 1 + 1) (exC un (.slice a3 l3 c3)) 37) := hide (RB2.out.setRow.other (by omega))
  have FS : Hid (Blk ((w3.drew.setRow (w.heap.size + 1 + 1) (exC un (.slice a3 l3 c3))).setRow (w.heap.size + 1 + 1 + 1) (exC un (.slice a4 l4 c4))) (w.heap.size + 1 + 1 + 1) (exC un (.slice a4 l4 c4)) 37) := hide (Blk.setRow (SB2.out.other (by omega)))
  have FB : Hid (Below w.heap.size w ((w3.drew.setRow (w.heap.size + 1 + 1) (exC un (.slice a3 l3 c3))).setRow (w.heap.size + 1 + 1 + 1) (exC un (.slice a4 l4 c4)))) := hide (below_setRow (below_setRow B2.out.drew (by omega) _) (by omega) _)
  refine wpAny_take (i := 1) (v := (.int .i64 0)) rfl (by kernel_rfl) (by kernel_rfl) (by kernel_rfl) (fun _ _ _ h => h) (Or.inl ⟨by rfl, by intro w; go_simp⟩) ?_
  refine wpAny_take (i := 3) (v := (.int .i64 0)) rfl (by kernel_rfl) (by kernel_rfl) (by kernel_rfl) (fun _ _ _ h => h) (Or.inl ⟨by rfl, by intro w; go_simp⟩) ?_
  refine wpAny_ready (rs := [0, 2]) (by kernel_rfl) (by simp) ?_
  refine AllReady.cons rfl (fun K hK => ?_) ?_
  · refine step_load rfl _ rfl _ rfl un (.slice a3 l3 c3) (by with_reducible exact AB2.out) ?_
    try go_simp
    refine hK _ _ ?_
    clear hK K
    refine wpAny_ready (rs := [2, 4]) (by kernel_rfl) (by simp) ?_
    refine AllReady.cons rfl (fun K hK => ?_) ?_
    · refine step_load rfl _ rfl _ rfl un (.slice a4 l4 c4) (by with_reducible first | exact BB2.out | exact BB2.out.other (by have := Z3.out; omega)) ?_
      try go_simp
      refine hK _ _ ?_
      clear hK K
      refine wpAny_ready (rs := [4]) (by kernel_rfl) (by simp) ?_
      refine AllReady.cons rfl (fun K hK => ?_) ?_
      · refine step_store rfl _ _ rfl _ rfl un _ _ _ (rfl : _ = exV un (.slice a3 l3 c3)) _ _ (by with_reducible exact RB2.out) ?_
        try go_simp
        refine hK _ _ ?_
        clear hK K
        refine wpAny_ready (rs := [5]) (by kernel_rfl) (by simp) ?_
        refine AllReady.cons rfl (fun K hK => ?_) ?_
        · go_simp
          refine hK _ _ ?_
          clear hK K
          refine wpAny_ready (rs := [6]) (by kernel_rfl) (by simp) ?_
          refine AllReady.cons rfl (fun K hK => ?_) ?_
          · refine step_store rfl _ _ rfl _ rfl un _ _ _ (rfl : _ = exV un (.slice a4 l4 c4)) _ _ (by with_reducible exact SB2.out.other (by omega)) ?_
            try go_simp
            refine hK _ _ ?_
            clear hK K
            refine wpAny_ready (rs := [7]) (by kernel_rfl) (by simp) ?_
            refine AllReady.cons rfl (fun K hK => ?_) ?_
            · go_simp
              refine hK _ _ ?_
              clear hK K
              refine wpAny_done (by kernel_rfl) ?_ _
              go_wp2_with fail
              have hr1 := run_blk FR.out rfl
              have hr2 := run_blk FS.out rfl
              refine bodyPost_ret (v := .tuple #[exV un (.slice a3 l3 c3), (.int .i64 0), exV un (.slice a4 l4 c4), (.int .i64 0)]) (by simp [results, Try.results7, asAddr, hr1, hr2]; try rfl) rfl ?_
              obtain ⟨f1, f2⟩ := call_fin (ca := exC un (.slice a3 l3 c3)) (cb := exC un (.slice a4 l4 c4)) Z0.out hN.out hb1.out.size hb2.out hGh.out hT.out K3.out L3.out
              exact .inr ⟨he, _, _, _, _, _, _, _, rfl, f1, f2, FB.out⟩
            exact AllReady.nil
          exact AllReady.nil
        exact AllReady.nil
      exact AllReady.nil
    refine AllReady.cons rfl (fun K hK => ?_) ?_
    · refine step_store rfl _ _ rfl _ rfl un _ _ _ (rfl : _ = exV un (.slice a3 l3 c3)) _ _ (by with_reducible exact RB2.out) ?_
      try go_simp
      refine hK _ _ ?_
      clear hK K
      refine wpAny_ready (rs := [2, 5]) (by kernel_rfl) (by simp) ?_
      refine AllReady.cons rfl (fun K hK => ?_) ?_
      · refine step_load rfl _ rfl _ rfl un (.slice a4 l4 c4) (by with_reducible first | exact BB2.out | exact BB2.out.other (by have := Z3.out; omega)) ?_
        try go_simp
        refine hK _ _ ?_
        clear hK K
        refine wpAny_ready (rs := [5]) (by kernel_rfl) (by simp) ?_
        refine AllReady.cons rfl (fun K hK => ?_) ?_
        · go_simp
          refine hK _ _ ?_
          clear hK K
          refine wpAny_ready (rs := [6]) (by kernel_rfl) (by simp) ?_
          refine AllReady.cons rfl (fun K hK => ?_) ?_
          · refine step_store rfl _ _ rfl _ rfl un _ _ _ (rfl : _ = exV un (.slice a4 l4 c4)) _ _ (by with_reducible exact SB2.out.other (by omega)) ?_
            try go_simp
            refine hK _ _ ?_
            clear hK K
            refine wpAny_ready (rs := [7]) (by kernel_rfl) (by simp) ?_
            refine AllReady.cons rfl (fun K hK => ?_) ?_
            · go_simp
              refine hK _ _ ?_
              clear hK K
              refine wpAny_done (by kernel_rfl) ?_ _
              go_wp2_with fail
              have hr1 := run_blk FR.out rfl
              have hr2 := run_blk FS.out rfl
              refine bodyPost_ret (v := .tuple #[exV un (.slice a3 l3 c3), (.int .i64 0), exV un (.slice a4 l4 c4), (.int .i64 0)]) (by simp [results, Try.results7, asAddr, hr1, hr2]; try rfl) rfl ?_
              obtain ⟨f1, f2⟩ := call_fin (ca := exC un (.slice a3 l3 c3)) (cb := exC un (.slice a4 l4 c4)) Z0.out hN.out hb1.out.size hb2.out hGh.out hT.out K3.out L3.out
              exact .inr ⟨he, _, _, _, _, _, _, _, rfl, f1, f2, FB.out⟩
            exact AllReady.nil
          exact AllReady.nil
        exact AllReady.nil
      refine AllReady.cons rfl (fun K hK => ?_) ?_
      · go_simp
        refine hK _ _ ?_
        clear hK K
        refine wpAny_ready (rs := [2]) (by kernel_rfl) (by simp) ?_
        refine AllReady.cons rfl (fun K hK => ?_) ?_
        · refine step_load rfl _ rfl _ rfl un (.slice a4 l4 c4) (by with_reducible first | exact BB2.out | exact BB2.out.other (by have := Z3.out; omega)) ?_
          try go_simp
          refine hK _ _ ?_
          clear hK K
          refine wpAny_ready (rs := [6]) (by kernel_rfl) (by simp) ?_
          refine AllReady.cons rfl (fun K hK => ?_) ?_
          · refine step_store rfl _ _ rfl _ rfl un _ _ _ (rfl : _ = exV un (.slice a4 l4 c4)) _ _ (by with_reducible exact SB2.out.other (by omega)) ?_
            try go_simp
            refine hK _ _ ?_
            clear hK K
            refine wpAny_ready (rs := [7]) (by kernel_rfl) (by simp) ?_
            refine AllReady.cons rfl (fun K hK => ?_) ?_
            · go_simp
              refine hK _ _ ?_
              clear hK K
              refine wpAny_done (by kernel_rfl) ?_ _
              go_wp2_with fail
              have hr1 := run_blk FR.out rfl
              have hr2 := run_blk FS.out rfl
              refine bodyPost_ret (v := .tuple #[exV un (.slice a3 l3 c3), (.int .i64 0), exV un (.slice a4 l4 c4), (.int .i64 0)]) (by simp [results, Try.results7, asAddr, hr1, hr2]; try rfl) rfl ?_
              obtain ⟨f1, f2⟩ := call_fin (ca := exC un (.slice a3 l3 c3)) (cb := exC un (.slice a4 l4 c4)) Z0.out hN.out hb1.out.size hb2.out hGh.out hT.out K3.out L3.out
              exact .inr ⟨he, _, _, _, _, _, _, _, rfl, f1, f2, FB.out⟩
            exact AllReady.nil
          exact AllReady.nil
        exact AllReady.nil
      exact AllReady.nil
    exact AllReady.nil
  refine AllReady.cons rfl (fun K hK => ?_) ?_
  · refine step_load rfl _ rfl _ rfl un (.slice a4 l4 c4) (by with_reducible first | exact BB2.out | exact BB2.out.other (by have := Z3.out; omega)) ?_
    try go_simp
    refine hK _ _ ?_
    clear hK K
    refine wpAny_ready (rs := [0]) (by kernel_rfl) (by simp) ?_
    refine AllReady.cons rfl (fun K hK => ?_) ?_
    · refine step_load rfl _ rfl _ rfl un (.slice a3 l3 c3) (by with_reducible exact AB2.out) ?_
      try go_simp
      refine hK _ _ ?_
      clear hK K
      refine wpAny_ready (rs := [4]) (by kernel_rfl) (by simp) ?_
      refine AllReady.cons rfl (fun K hK => ?_) ?_
      · refine step_store rfl _ _ rfl _ rfl un _ _ _ (rfl : _ = exV un (.slice a3 l3 c3)) _ _ (by with_reducible exact RB2.out) ?_
        try go_simp
        refine hK _ _ ?_
        clear hK K
        refine wpAny_ready (rs := [5]) (by kernel_rfl) (by simp) ?_
        refine AllReady.cons rfl (fun K hK => ?_) ?_
        · go_simp
          refine hK _ _ ?_
          clear hK K
          refine wpAny_ready (rs := [6]) (by kernel_rfl) (by simp) ?_
          refine AllReady.cons rfl (fun K hK => ?_) ?_
          · refine step_store rfl _ _ rfl _ rfl un _ _ _ (rfl : _ = exV un (.slice a4 l4 c4)) _ _ (by with_reducible exact SB2.out.other (by omega)) ?_
            try go_simp
            refine hK _ _ ?_
            clear hK K
            refine wpAny_ready (rs := [7]) (by kernel_rfl) (by simp) ?_
            refine AllReady.cons rfl (fun K hK => ?_) ?_
            · go_simp
              refine hK _ _ ?_
              clear hK K
              refine wpAny_done (by kernel_rfl) ?_ _
              go_wp2_with fail
              have hr1 := run_blk FR.out rfl
              have hr2 := run_blk FS.out rfl
              refine bodyPost_ret (v := .tuple #[exV un (.slice a3 l3 c3), (.int .i64 0), exV un (.slice a4 l4 c4), (.int .i64 0)]) (by simp [results, Try.results7, asAddr, hr1, hr2]; try rfl) rfl ?_
              obtain ⟨f1, f2⟩ := call_fin (ca := exC un (.slice a3 l3 c3)) (cb := exC un (.slice a4 l4 c4)) Z0.out hN.out hb1.out.size hb2.out hGh.out hT.out K3.out L3.out
              exact .inr ⟨he, _, _, _, _, _, _, _, rfl, f1, f2, FB.out⟩
            exact AllReady.nil
          exact AllReady.nil
        exact AllReady.nil
      exact AllReady.nil
    exact AllReady.nil
  exact AllReady.nil
set_option maxHeartbeats 4000000 in
set_option maxRecDepth 100000 in
theorem call_2f (K M N : Int) (u : Ex) (n1 n2 : Nd) (a1 a2 : Option Addr) (l1 c1 l2 c2 : Nat) (w : World) (h1 : Tree w (exV n1 (.slice a1 l1 c1)) u) (G : Nat) (hG : G ≤ w.heap.size) (h2 : In (· < G) w (exV n2 (.slice a2 l2 c2)) u) (k1 : (K == 1) = false) (k2 : (K == 2) = true) (he : spotR u M 0 ≠ 0) :
    Calls Try.prog 7 #[.agg (opX K M N n2 (.slice a2 l2 c2)), exV n1 (.slice a1 l1 c1)] w fun e w' => ClP G w (spotR u M 0) (movE (rowR M N) u) e w' := by
  have OB := hide ((((Blk.new w (opX K M N n2 (.slice a2 l2 c2)) 39).alloc (exO n1 (.slice a1 l1 c1))).alloc (.cells #[.int .i64 0, .int .i64 0, .int .i64 0, .string { data := #[] }, .int .i64 0, .int .i64 0, .bool false, .bool false, .int .i64 0, .int .i64 0, .bool false, .bool false, .int .i64 0, .slice none 0 0] 37)).alloc (.cells #[.int .i64 0, .int .i64 0, .int .i64 0, .string { data := #[] }, .int .i64 0, .int .i64 0, .bool false, .bool false, .int .i64 0, .int .i64 0, .bool false, .bool false, .int .i64 0, .slice none 0 0] 37))
  have TB := hide (((Blk.new1 w (.cells (opX K M N n2 (.slice a2 l2 c2)) 39) (exC n1 (.slice a1 l1 c1)) 37).alloc (.cells #[.int .i64 0, .int .i64 0, .int .i64 0, .string { data := #[] }, .int .i64 0, .int .i64 0, .bool false, .bool false, .int .i64 0, .int .i64 0, .bool false, .bool false, .int .i64 0, .slice none 0 0] 37)).alloc (.cells #[.int .i64 0, .int .i64 0, .int .i64 0, .string { data := #[] }, .int .i64 0, .int .i64 0, .bool false, .bool false, .int .i64 0, .int .i64 0, .bool false, .bool false, .int .i64 0, .slice none 0 0] 37))
  have RB : Hid (Blk ((((w.alloc (.cells (opX K M N n2 (.slice a2 l2 c2)) 39)).alloc (exO n1 (.slice a1 l1 c1))).alloc (.cells #[.int .i64 0, .int .i64 0, .int .i64 0, .string { data := #[] }, .int .i64 0, .int .i64 0, .bool false, .bool false, .int .i64 0, .int .i64 0, .bool false, .bool false, .int .i64 0, .slice none 0 0] 37)).alloc (.cells #[.int .i64 0, .int .i64 0, .int .i64 0, .string { data := #[] }, .int .i64 0, .int .i64 0, .bool false, .bool false, .int .i64 0, .int .i64 0, .bool false, .bool false, .int .i64 0, .slice none 0 0] 37)) (w.heap.size + 1 + 1) (exC nd0 (.slice none 0 0)) 37) := hide ((Blk.new2 w (.cells (opX K M N n2 (.slice a2 l2 c2)) 39) (exO n1 (.slice a1 l1 c1)) (exC nd0 (.slice none 0 0)) 37).alloc (.cells #[.int .i64 0, .int .i64 0, .int .i64 0, .string { data := #[] }, .int .i64 0, .int .i64 0, .bool false, .bool false, .int .i64 0, .int .i64 0, .bool false, .bool false, .int .i64 0, .slice none 0 0] 37))
  have SB : Hid (Blk ((((w.alloc (.cells (opX K M N n2 (.slice a2 l2 c2)) 39)).alloc (exO n1 (.slice a1 l1 c1))).alloc (.cells #[.int .i64 0, .int .i64 0, .int .i64 0, .string { data := #[] }, .int .i64 0, .int .i64 0, .bool false, .bool false, .int .i64 0, .int .i64 0, .bool false, .bool false, .int .i64 0, .slice none 0 0] 37)).alloc (.cells #[.int .i64 0, .int .i64 0, .int .i64 0, .string { data := #[] }, .int .i64 0, .int .i64 0, .bool false, .bool false, .int .i64 0, .int .i64 0, .bool false, .bool false, .int .i64 0, .slice none 0 0] 37)) (w.heap.size + 1 + 1 + 1) (exC nd0 (.slice none 0 0)) 37) := hide (Blk.new3 w (.cells (opX K M N n2 (.slice a2 l2 c2)) 39) (exO n1 (.slice a1 l1 c1)) (.cells #[.int .i64 0, .int .i64 0, .int .i64 0, .string { data := #[] }, .int .i64 0, .int .i64 0, .bool false, .bool false, .int .i64 0, .int .i64 0, .bool false, .bool false, .int .i64 0, .slice none 0 0] 37) (exC nd0 (.slice none 0 0)) 37)
  have B0 := hide (step (step (step (step (Below.refl w.heap.size w) (.cells (opX K M N n2 (.slice a2 l2 c2)) 39)) (exO n1 (.slice a1 l1 c1))) (.cells #[.int .i64 0, .int .i64 0, .int .i64 0, .string { data := #[] }, .int .i64 0, .int .i64 0, .bool false, .bool false, .int .i64 0, .int .i64 0, .bool false, .bool false, .int .i64 0, .slice none 0 0] 37)) (.cells #[.int .i64 0, .int .i64 0, .int .i64 0, .string { data := #[] }, .int .i64 0, .int .i64 0, .bool false, .bool false, .int .i64 0, .int .i64 0, .bool false, .bool false, .int .i64 0, .slice none 0 0] 37))
  have Z0 : Hid (((((w.alloc (.cells (opX K M N n2 (.slice a2 l2 c2)) 39)).alloc (exO n1 (.slice a1 l1 c1))).alloc (.cells #[.int .i64 0, .int .i64 0, .int .i64 0, .string { data := #[] }, .int .i64 0, .int .i64 0, .bool false, .bool false, .int .i64 0, .int .i64 0, .bool false, .bool false, .int .i64 0, .slice none 0 0] 37)).alloc (.cells #[.int .i64 0, .int .i64 0, .int .i64 0, .string { data := #[] }, .int .i64 0, .int .i64 0, .bool false, .bool false, .int .i64 0, .int .i64 0, .bool false, .bool false, .int .i64 0, .slice none 0 0] 37)).heap.size = w.heap.size + 1 + 1 + 1 + 1) := hide (by simp)
  obtain ⟨w0, hw0⟩ : ∃ w0, ((((w.alloc (.cells (opX K M N n2 (.slice a2 l2 c2)) 39)).alloc (exO n1 (.slice a1 l1 c1))).alloc (.cells #[.int .i64 0, .int .i64 0, .int .i64 0, .string { data := #[] }, .int .i64 0, .int .i64 0, .bool false, .bool false, .int .i64 0, .int .i64 0, .bool false, .bool false, .int .i64 0, .slice none 0 0] 37)).alloc (.cells #[.int .i64 0, .int .i64 0, .int .i64 0, .string { data := #[] }, .int .i64 0, .int .i64 0, .bool false, .bool false, .int .i64 0, .int .i64 0, .bool false, .bool false, .int .i64 0, .slice none 0 0] 37)) = w0 := ⟨_, rfl⟩
  rw [hw0] at OB TB RB SB B0 Z0
  have HA := hide (rows_any u _ M N w0 (h1.step B0.out))
  have HB := hide (fun w' (h : Below w.heap.size w w') => rrows_any u _ M N G w' (Nat.le_trans hG h.size) (In.move (fun k hk => ⟨hk, h.block k (Nat.lt_of_lt_of_le hk hG)⟩) u h2))
  obtain ⟨m0, m15, m16⟩ := opX_c OB.out
  obtain ⟨un, uk, hu⟩ : ∃ un uk, movE (rowR M N) u = .mk un uk := by cases movE (rowR M N) u; exact ⟨_, _, rfl⟩
  rw [hu] at HA HB ⊢
  have hGh := hide hG
  clear hu h1 h2 hG
  go_enter Try.func7, Try.ntmps7
  go_wp2_with (refine wpList_load_blk rfl 37 _ rfl _ rfl _ (by with_reducible exact TB.out) _ Try.underlying37 rfl (exC_info _ _) ?_)
  clear hw0
  refine HA.out.mono ?_
  intro e w1 hh
  obtain ⟨rfl, hb⟩ : e = .returned (.tuple #[exV nd0 (.slice none 0 0), .int .i64 (spotR u M 0)]) ∧ Below w0.heap.size w0 w1 := by
    rcases hh with ⟨_, q⟩ | ⟨q, _⟩
    · exact q
    · exact absurd q he
  clear hh m0 m15 m16
  have hb1 := hide hb
  have B1 := hide (step (next B0.out hb) (exO nd0 (.slice none 0 0)))
  have OB1 : Hid (Blk (w1.alloc (exO nd0 (.slice none 0 0))) w.heap.size (opX K M N n2 (.slice a2 l2 c2)) 39) := hide ((OB.out.keep hb).alloc _)
  have RB1 : Hid (Blk (w1.alloc (exO nd0 (.slice none 0 0))) (w.heap.size + 1 + 1) (exC nd0 (.slice none 0 0)) 37) := hide ((RB.out.keep hb).alloc _)
  have SB1 : Hid (Blk (w1.alloc (exO nd0 (.slice none 0 0))) (w.heap.size + 1 + 1 + 1) (exC nd0 (.slice none 0 0)) 37) := hide ((SB.out.keep hb).alloc _)
  have AB1 : Hid (Blk (w1.alloc (exO nd0 (.slice none 0 0))) w1.heap.size (exC nd0 (.slice none 0 0)) 37) := hide (Blk.new w1 _ _)
  have R1 := hide (opX_rng OB1.out)
  obtain ⟨m0, m15, m16⟩ := opX_c OB1.out
  have hsn1 := run_putnew w1 nd0 none 0 0
  clear hb OB TB RB SB
  go_wp2_with (refine wpList_load_at rfl 37 _ rfl _ _ rfl _ _ (by with_reducible exact R1.out) Try.underlying37 rfl (exC_info _ _) ?_)
  refine (HB.out _ B1.out).mono ?_
  intro e w2 hh
  obtain ⟨rfl, hb⟩ : e = .returned (.tuple #[exV nd0 (.slice none 0 0), .int .i64 (spotR u M 0)]) ∧ Below (w1.alloc (exO nd0 (.slice none 0 0))).heap.size (w1.alloc (exO nd0 (.slice none 0 0))) w2 := by
    rcases hh with ⟨_, q⟩ | ⟨q, _⟩
    · exact q
    · exact absurd q he
  clear hh m0 m15 m16
  have hb2 := hide hb
  have B2 := hide (step (next B1.out hb) (exO nd0 (.slice none 0 0)))
  have RB2 : Hid (Blk (w2.alloc (exO nd0 (.slice none 0 0))) (w.heap.size + 1 + 1) (exC nd0 (.slice none 0 0)) 37) := hide ((RB1.out.keep hb).alloc _)
  have SB2 : Hid (Blk (w2.alloc (exO nd0 (.slice none 0 0))) (w.heap.size + 1 + 1 + 1) (exC nd0 (.slice none 0 0)) 37) := hide ((SB1.out.keep hb).alloc _)
  have AB2 : Hid (Blk (w2.alloc (exO nd0 (.slice none 0 0))) w1.heap.size (exC nd0 (.slice none 0 0)) 37) := hide ((AB1.out.keep hb).alloc _)
  have BB2 : Hid (Blk (w2.alloc (exO nd0 (.slice none 0 0))) w2.heap.size (exC nd0 (.slice none 0 0)) 37) := hide (Blk.new w2 _ _)
  have hsn2 := run_putnew w2 nd0 none 0 0
  clear hb OB1 RB1 SB1 AB1 R1 hsn1
  go_wp2_with fail
  have Z3 : Hid (w.heap.size + 1 + 1 + 1 + 1 ≤ w1.heap.size ∧ w1.heap.size + 1 ≤ w2.heap.size) := hide ⟨by have := hb1.out.size; have := Z0.out; omega, by have := hb2.out.size; simp at this; omega⟩
  have K3 : Hid (∀ k, k < w2.heap.size → (w2.alloc (exO nd0 (.slice none 0 0))).heap[k]? = w2.heap[k]?) := hide (fun k hk => Below.heap_alloc _ _ k hk)
  have L3 : Hid ((w2.alloc (exO nd0 (.slice none 0 0))).heap.size = w2.heap.size + 1) := hide (by simp)
  clear hsn2
  generalize hw3 : w2.alloc (exO nd0 (.slice none 0 0)) = w3 at *
  clear hw3
  replace RB2 : Hid (Blk w3.drew (w.heap.size + 1 + 1) (exC nd0 (.slice none 0 0)) 37) := RB2
  replace SB2 : Hid (Blk w3.drew (w.heap.size + 1 + 1 + 1) (exC nd0 (.slice none 0 0)) 37) := SB2
  replace AB2 : Hid (Blk w3.drew w1.heap.size (exC nd0 (.slice none 0 0)) 37) := AB2
  replace BB2 : Hid (Blk w3.drew w2.heap.size (exC nd0 (.slice none 0 0)) 37) := BB2
  refine wp_region_any (by kernel_rfl) ?_
  change wpAny _ _ _ _ _ _ _ (World.drew _)
  have FR : Hid (Blk ((w3.drew.setRow (w.heap.size + 1 + 1) (exC nd0 (.slice none 0 0))).setRow (w.heap.size + 1 + 1 + 1) (exC nd0 (.slice none 0 0))) (w.heap.size + 1 + 1) (exC nd0 (.slice none 0 0)) 37) := hide (RB2.out.setRow.other (by omega))
  have FS : Hid (Blk ((w3.drew.setRow (w.heap.size + 1 + 1) (exC nd0 (.slice none 0 0))).setRow (w.heap.size + 1 + 1 + 1) (exC nd0 (.slice none 0 0))) (w.heap.size + 1 + 1 + 1) (exC nd0 (.slice none 0 0)) 37) := hide (Blk.setRow (SB2.out.other (by omega)))
  have FB : Hid (Below w.heap.size w ((w3.drew.setRow (w.heap.size + 1 + 1) (exC nd0 (.slice none 0 0))).setRow (w.heap.size + 1 + 1 + 1) (exC nd0 (.slice none 0 0)))) := hide (below_setRow (below_setRow B2.out.drew (by omega) _) (by omega) _)
  refine wpAny_take (i := 1) (v := (.int .i64 (spotR u M 0))) rfl (by kernel_rfl) (by kernel_rfl) (by kernel_rfl) (fun _ _ _ h => h) (Or.inl ⟨by rfl, by intro w; go_simp⟩) ?_
  refine wpAny_take (i := 3) (v := (.int .i64 (spotR u M 0))) rfl (by kernel_rfl) (by kernel_rfl) (by kernel_rfl) (fun _ _ _ h => h) (Or.inl ⟨by rfl, by intro w; go_simp⟩) ?_
  refine wpAny_ready (rs := [0, 2]) (by kernel_rfl) (by simp) ?_
  refine AllReady.cons rfl (fun K hK => ?_) ?_
  · refine step_load rfl _ rfl _ rfl nd0 (.slice none 0 0) (by with_reducible exact AB2.out) ?_
    try go_simp
    refine hK _ _ ?_
    clear hK K
    refine wpAny_ready (rs := [2, 4]) (by kernel_rfl) (by simp) ?_
    refine AllReady.cons rfl (fun K hK => ?_) ?_
    · refine step_load rfl _ rfl _ rfl nd0 (.slice none 0 0) (by with_reducible first | exact BB2.out | exact BB2.out.other (by have := Z3.out; omega)) ?_
      try go_simp
      refine hK _ _ ?_
      clear hK K
      refine wpAny_ready (rs := [4]) (by kernel_rfl) (by simp) ?_
      refine AllReady.cons rfl (fun K hK => ?_) ?_
      · refine step_store rfl _ _ rfl _ rfl nd0 _ _ _ (rfl : _ = exV nd0 (.slice none 0 0)) _ _ (by with_reducible exact RB2.out) ?_
        try go_simp
        refine hK _ _ ?_
        clear hK K
        refine wpAny_ready (rs := [5]) (by kernel_rfl) (by simp) ?_
        refine AllReady.cons rfl (fun K hK => ?_) ?_
        · go_simp
          refine hK _ _ ?_
          clear hK K
          refine wpAny_ready (rs := [6]) (by kernel_rfl) (by simp) ?_
          refine AllReady.cons rfl (fun K hK => ?_) ?_
          · refine step_store rfl _ _ rfl _ rfl nd0 _ _ _ (rfl : _ = exV nd0 (.slice none 0 0)) _ _ (by with_reducible exact SB2.out.other (by omega)) ?_
            try go_simp
            refine hK _ _ ?_
            clear hK K
            refine wpAny_ready (rs := [7]) (by kernel_rfl) (by simp) ?_
            refine AllReady.cons rfl (fun K hK => ?_) ?_
            · go_simp
              refine hK _ _ ?_
              clear hK K
              refine wpAny_done (by kernel_rfl) ?_ _
              go_wp2_with fail
              have hr1 := run_blk FR.out rfl
              have hr2 := run_blk FS.out rfl
              refine bodyPost_ret (v := .tuple #[exV nd0 (.slice none 0 0), (.int .i64 (spotR u M 0)), exV nd0 (.slice none 0 0), (.int .i64 (spotR u M 0))]) (by simp [results, Try.results7, asAddr, hr1, hr2]; try rfl) rfl ?_
              exact .inl ⟨he, rfl, FB.out⟩
            exact AllReady.nil
          exact AllReady.nil
        exact AllReady.nil
      exact AllReady.nil
    refine AllReady.cons rfl (fun K hK => ?_) ?_
    · refine step_store rfl _ _ rfl _ rfl nd0 _ _ _ (rfl : _ = exV nd0 (.slice none 0 0)) _ _ (by with_reducible exact RB2.out) ?_
      try go_simp
      refine hK _ _ ?_
      clear hK K
      refine wpAny_ready (rs := [2, 5]) (by kernel_rfl) (by simp) ?_
      refine AllReady.cons rfl (fun K hK => ?_) ?_
      · refine step_load rfl _ rfl _ rfl nd0 (.slice none 0 0) (by with_reducible first | exact BB2.out | exact BB2.out.other (by have := Z3.out; omega)) ?_
        try go_simp
        refine hK _ _ ?_
        clear hK K
        refine wpAny_ready (rs := [5]) (by kernel_rfl) (by simp) ?_
        refine AllReady.cons rfl (fun K hK => ?_) ?_
        · go_simp
          refine hK _ _ ?_
          clear hK K
          refine wpAny_ready (rs := [6]) (by kernel_rfl) (by simp) ?_
          refine AllReady.cons rfl (fun K hK => ?_) ?_
          · refine step_store rfl _ _ rfl _ rfl nd0 _ _ _ (rfl : _ = exV nd0 (.slice none 0 0)) _ _ (by with_reducible exact SB2.out.other (by omega)) ?_
            try go_simp
            refine hK _ _ ?_
            clear hK K
            refine wpAny_ready (rs := [7]) (by kernel_rfl) (by simp) ?_
            refine AllReady.cons rfl (fun K hK => ?_) ?_
            · go_simp
              refine hK _ _ ?_
              clear hK K
              refine wpAny_done (by kernel_rfl) ?_ _
              go_wp2_with fail
              have hr1 := run_blk FR.out rfl
              have hr2 := run_blk FS.out rfl
              refine bodyPost_ret (v := .tuple #[exV nd0 (.slice none 0 0), (.int .i64 (spotR u M 0)), exV nd0 (.slice none 0 0), (.int .i64 (spotR u M 0))]) (by simp [results, Try.results7, asAddr, hr1, hr2]; try rfl) rfl ?_
              exact .inl ⟨he, rfl, FB.out⟩
            exact AllReady.nil
          exact AllReady.nil
        exact AllReady.nil
      refine AllReady.cons rfl (fun K hK => ?_) ?_
      · go_simp
        refine hK _ _ ?_
        clear hK K
        refine wpAny_ready (rs := [2]) (by kernel_rfl) (by simp) ?_
        refine AllReady.cons rfl (fun K hK => ?_) ?_
        · refine step_load rfl _ rfl _ rfl nd0 (.slice none 0 0) (by with_reducible first | exact BB2.out | exact BB2.out.other (by have := Z3.out; omega)) ?_
          try go_simp
          refine hK _ _ ?_
          clear hK K
          refine wpAny_ready (rs := [6]) (by kernel_rfl) (by simp) ?_
          refine AllReady.cons rfl (fun K hK => ?_) ?_
          · refine step_store rfl _ _ rfl _ rfl nd0 _ _ _ (rfl : _ = exV nd0 (.slice none 0 0)) _ _ (by with_reducible exact SB2.out.other (by omega)) ?_
            try go_simp
            refine hK _ _ ?_
            clear hK K
            refine wpAny_ready (rs := [7]) (by kernel_rfl) (by simp) ?_
            refine AllReady.cons rfl (fun K hK => ?_) ?_
            · go_simp
              refine hK _ _ ?_
              clear hK K
              refine wpAny_done (by kernel_rfl) ?_ _
              go_wp2_with fail
              have hr1 := run_blk FR.out rfl
              have hr2 := run_blk FS.out rfl
              refine bodyPost_ret (v := .tuple #[exV nd0 (.slice none 0 0), (.int .i64 (spotR u M 0)), exV nd0 (.slice none 0 0), (.int .i64 (spotR u M 0))]) (by simp [results, Try.results7, asAddr, hr1, hr2]; try rfl) rfl ?_
              exact .inl ⟨he, rfl, FB.out⟩
            exact AllReady.nil
          exact AllReady.nil
        exact AllReady.nil
      exact AllReady.nil
    exact AllReady.nil
  refine AllReady.cons rfl (fun K hK => ?_) ?_
  · refine step_load rfl _ rfl _ rfl nd0 (.slice none 0 0) (by with_reducible first | exact BB2.out | exact BB2.out.other (by have := Z3.out; omega)) ?_
    try go_simp
    refine hK _ _ ?_
    clear hK K
    refine wpAny_ready (rs := [0]) (by kernel_rfl) (by simp) ?_
    refine AllReady.cons rfl (fun K hK => ?_) ?_
    · refine step_load rfl _ rfl _ rfl nd0 (.slice none 0 0) (by with_reducible exact AB2.out) ?_
      try go_simp
      refine hK _ _ ?_
      clear hK K
      refine wpAny_ready (rs := [4]) (by kernel_rfl) (by simp) ?_
      refine AllReady.cons rfl (fun K hK => ?_) ?_
      · refine step_store rfl _ _ rfl _ rfl nd0 _ _ _ (rfl : _ = exV nd0 (.slice none 0 0)) _ _ (by with_reducible exact RB2.out) ?_
        try go_simp
        refine hK _ _ ?_
        clear hK K
        refine wpAny_ready (rs := [5]) (by kernel_rfl) (by simp) ?_
        refine AllReady.cons rfl (fun K hK => ?_) ?_
        · go_simp
          refine hK _ _ ?_
          clear hK K
          refine wpAny_ready (rs := [6]) (by kernel_rfl) (by simp) ?_
          refine AllReady.cons rfl (fun K hK => ?_) ?_
          · refine step_store rfl _ _ rfl _ rfl nd0 _ _ _ (rfl : _ = exV nd0 (.slice none 0 0)) _ _ (by with_reducible exact SB2.out.other (by omega)) ?_
            try go_simp
            refine hK _ _ ?_
            clear hK K
            refine wpAny_ready (rs := [7]) (by kernel_rfl) (by simp) ?_
            refine AllReady.cons rfl (fun K hK => ?_) ?_
            · go_simp
              refine hK _ _ ?_
              clear hK K
              refine wpAny_done (by kernel_rfl) ?_ _
              go_wp2_with fail
              have hr1 := run_blk FR.out rfl
              have hr2 := run_blk FS.out rfl
              refine bodyPost_ret (v := .tuple #[exV nd0 (.slice none 0 0), (.int .i64 (spotR u M 0)), exV nd0 (.slice none 0 0), (.int .i64 (spotR u M 0))]) (by simp [results, Try.results7, asAddr, hr1, hr2]; try rfl) rfl ?_
              exact .inl ⟨he, rfl, FB.out⟩
            exact AllReady.nil
          exact AllReady.nil
        exact AllReady.nil
      exact AllReady.nil
    exact AllReady.nil
  exact AllReady.nil
set_option maxHeartbeats 4000000 in
set_option maxRecDepth 100000 in
theorem call_3t (K M N : Int) (u : Ex) (n1 n2 : Nd) (a1 a2 : Option Addr) (l1 c1 l2 c2 : Nat) (w : World) (h1 : Tree w (exV n1 (.slice a1 l1 c1)) u) (G : Nat) (hG : G ≤ w.heap.size) (h2 : In (· < G) w (exV n2 (.slice a2 l2 c2)) u) (k1 : (K == 1) = false) (k2 : (K == 2) = false) (he : spotR u 0 M = 0) :
    Calls Try.prog 7 #[.agg (opX K M N n2 (.slice a2 l2 c2)), exV n1 (.slice a1 l1 c1)] w fun e w' => ClP G w (spotR u 0 M) (movE (colR M N) u) e w' := by
  have OB := hide ((((Blk.new w (opX K M N n2 (.slice a2 l2 c2)) 39).alloc (exO n1 (.slice a1 l1 c1))).alloc (.cells #[.int .i64 0, .int .i64 0, .int .i64 0, .string { data := #[] }, .int .i64 0, .int .i64 0, .bool false, .bool false, .int .i64 0, .int .i64 0, .bool false, .bool false, .int .i64 0, .slice none 0 0] 37)).alloc (.cells #[.int .i64 0, .int .i64 0, .int .i64 0, .string { data := #[] }, .int .i64 0, .int .i64 0, .bool false, .bool false, .int .i64 0, .int .i64 0, .bool false, .bool false, .int .i64 0, .slice none 0 0] 37))
  have TB := hide (((Blk.new1 w (.cells (opX K M N n2 (.slice a2 l2 c2)) 39) (exC n1 (.slice a1 l1 c1)) 37).alloc (.cells #[.int .i64 0, .int .i64 0, .int .i64 0, .string { data := #[] }, .int .i64 0, .int .i64 0, .bool false, .bool false, .int .i64 0, .int .i64 0, .bool false, .bool false, .int .i64 0, .slice none 0 0] 37)).alloc (.cells #[.int .i64 0, .int .i64 0, .int .i64 0, .string { data := #[] }, .int .i64 0, .int .i64 0, .bool false, .bool false, .int .i64 0, .int .i64 0, .bool false, .bool false, .int .i64 0, .slice none 0 0] 37))
  have RB : Hid (Blk ((((w.alloc (.cells (opX K M N n2 (.slice a2 l2 c2)) 39)).alloc (exO n1 (.slice a1 l1 c1))).alloc (.cells #[.int .i64 0, .int .i64 0, .int .i64 0, .string { data := #[] }, .int .i64 0, .int .i64 0, .bool false, .bool false, .int .i64 0, .int .i64 0, .bool false, .bool false, .int .i64 0, .slice none 0 0] 37)).alloc (.cells #[.int .i64 0, .int .i64 0, .int .i64 0, .string { data := #[] }, .int .i64 0, .int .i64 0, .bool false, .bool false, .int .i64 0, .int .i64 0, .bool false, .bool false, .int .i64 0, .slice none 0 0] 37)) (w.heap.size + 1 + 1) (exC nd0 (.slice none 0 0)) 37) := hide ((Blk.new2 w (.cells (opX K M N n2 (.slice a2 l2 c2)) 39) (exO n1 (.slice a1 l1 c1)) (exC nd0 (.slice none 0 0)) 37).alloc (.cells #[.int .i64 0, .int .i64 0, .int .i64 0, .string { data := #[] }, .int .i64 0, .int .i64 0, .bool false, .bool false, .int .i64 0, .int .i64 0, .bool false, .bool false, .int .i64 0, .slice none 0 0] 37))
  have SB : Hid (Blk ((((w.alloc (.cells (opX K M N n2 (.slice a2 l2 c2)) 39)).alloc (exO n1 (.slice a1 l1 c1))).alloc (.cells #[.int .i64 0, .int .i64 0, .int .i64 0, .string { data := #[] }, .int .i64 0, .int .i64 0, .bool false, .bool false, .int .i64 0, .int .i64 0, .bool false, .bool false, .int .i64 0, .slice none 0 0] 37)).alloc (.cells #[.int .i64 0, .int .i64 0, .int .i64 0, .string { data := #[] }, .int .i64 0, .int .i64 0, .bool false, .bool false, .int .i64 0, .int .i64 0, .bool false, .bool false, .int .i64 0, .slice none 0 0] 37)) (w.heap.size + 1 + 1 + 1) (exC nd0 (.slice none 0 0)) 37) := hide (Blk.new3 w (.cells (opX K M N n2 (.slice a2 l2 c2)) 39) (exO n1 (.slice a1 l1 c1)) (.cells #[.int .i64 0, .int .i64 0, .int .i64 0, .string { data := #[] }, .int .i64 0, .int .i64 0, .bool false, .bool false, .int .i64 0, .int .i64 0, .bool false, .bool false, .int .i64 0, .slice none 0 0] 37) (exC nd0 (.slice none 0 0)) 37)
  have B0 := hide (step (step (step (step (Below.refl w.heap.size w) (.cells (opX K M N n2 (.slice a2 l2 c2)) 39)) (exO n1 (.slice a1 l1 c1))) (.cells #[.int .i64 0, .int .i64 0, .int .i64 0, .string { data := #[] }, .int .i64 0, .int .i64 0, .bool false, .bool false, .int .i64 0, .int .i64 0, .bool false, .bool false, .int .i64 0, .slice none 0 0] 37)) (.cells #[.int .i64 0, .int .i64 0, .int .i64 0, .string { data := #[] }, .int .i64 0, .int .i64 0, .bool false, .bool false, .int .i64 0, .int .i64 0, .bool false, .bool false, .int .i64 0, .slice none 0 0] 37))
  have Z0 : Hid (((((w.alloc (.cells (opX K M N n2 (.slice a2 l2 c2)) 39)).alloc (exO n1 (.slice a1 l1 c1))).alloc (.cells #[.int .i64 0, .int .i64 0, .int .i64 0, .string { data := #[] }, .int .i64 0, .int .i64 0, .bool false, .bool false, .int .i64 0, .int .i64 0, .bool false, .bool false, .int .i64 0, .slice none 0 0] 37)).alloc (.cells #[.int .i64 0, .int .i64 0, .int .i64 0, .string { data := #[] }, .int .i64 0, .int .i64 0, .bool false, .bool false, .int .i64 0, .int .i64 0, .bool false, .bool false, .int .i64 0, .slice none 0 0] 37)).heap.size = w.heap.size + 1 + 1 + 1 + 1) := hide (by simp)
  obtain ⟨w0, hw0⟩ : ∃ w0, ((((w.alloc (.cells (opX K M N n2 (.slice a2 l2 c2)) 39)).alloc (exO n1 (.slice a1 l1 c1))).alloc (.cells #[.int .i64 0, .int .i64 0, .int .i64 0, .string { data := #[] }, .int .i64 0, .int .i64 0, .bool false, .bool false, .int .i64 0, .int .i64 0, .bool false, .bool false, .int .i64 0, .slice none 0 0] 37)).alloc (.cells #[.int .i64 0, .int .i64 0, .int .i64 0, .string { data := #[] }, .int .i64 0, .int .i64 0, .bool false, .bool false, .int .i64 0, .int .i64 0, .bool false, .bool false, .int .i64 0, .slice none 0 0] 37)) = w0 := ⟨_, rfl⟩
  rw [hw0] at OB TB RB SB B0 Z0
  have HA := hide (cols_any u _ M N w0 (h1.step B0.out))
  have HB := hide (fun w' (h : Below w.heap.size w w') => rcols_any u _ M N G w' (Nat.le_trans hG h.size) (In.move (fun k hk => ⟨hk, h.block k (Nat.lt_of_lt_of_le hk hG)⟩) u h2))
  obtain ⟨m0, m15, m16⟩ := opX_c OB.out
  obtain ⟨un, uk, hu⟩ : ∃ un uk, movE (colR M N) u = .mk un uk := by cases movE (colR M N) u; exact ⟨_, _, rfl⟩
  rw [hu] at HA HB ⊢
  have hGh := hide hG
  clear hu h1 h2 hG
  go_enter Try.func7, Try.ntmps7
  go_wp2_with (refine wpList_load_blk rfl 37 _ rfl _ rfl _ (by with_reducible exact TB.out) _ Try.underlying37 rfl (exC_info _ _) ?_)
  clear hw0
  refine HA.out.mono ?_
  intro e w1 hh
  obtain ⟨a3, l3, c3, bs, rfl, hN, hb⟩ : ∃ a len cap bs, e = .returned (.tuple #[exV un (.slice a len cap), .int .i64 0]) ∧ New w0 w1 (exV un (.slice a len cap)) (.mk un uk) bs ∧ Below w0.heap.size w0 w1 := by
    rcases hh with ⟨q, _⟩ | ⟨_, q⟩
    · exact absurd he q
    · exact q
  replace hN := hide hN
  have ev : .int .i64 0 = Value.int .i64 0 := rfl
  clear hh m0 m15 m16
  have hb1 := hide hb
  have B1 := hide (step (next B0.out hb) (exO un (.slice a3 l3 c3)))
  have OB1 : Hid (Blk (w1.alloc (exO un (.slice a3 l3 c3))) w.heap.size (opX K M N n2 (.slice a2 l2 c2)) 39) := hide ((OB.out.keep hb).alloc _)
  have RB1 : Hid (Blk (w1.alloc (exO un (.slice a3 l3 c3))) (w.heap.size + 1 + 1) (exC nd0 (.slice none 0 0)) 37) := hide ((RB.out.keep hb).alloc _)
  have SB1 : Hid (Blk (w1.alloc (exO un (.slice a3 l3 c3))) (w.heap.size + 1 + 1 + 1) (exC nd0 (.slice none 0 0)) 37) := hide ((SB.out.keep hb).alloc _)
  have AB1 : Hid (Blk (w1.alloc (exO un (.slice a3 l3 c3))) w1.heap.size (exC un (.slice a3 l3 c3)) 37) := hide (Blk.new w1 _ _)
  have R1 := hide (opX_rng OB1.out)
  obtain ⟨m0, m15, m16⟩ := opX_c OB1.out
  have hsn1 := run_putnew w1 un a3 l3 c3
  clear hb OB TB RB SB
  go_wp2_with (refine wpList_load_at rfl 37 _ rfl _ _ rfl _ _ (by with_reducible exact R1.out) Try.underlying37 rfl (exC_info _ _) ?_)
  refine (HB.out _ B1.out).mono ?_
  intro e w2 hh
  obtain ⟨a4, l4, c4, rfl, hT, hb⟩ : ∃ a len cap, e = .returned (.tuple #[exV un (.slice a len cap), .int .i64 0]) ∧ In (OldN G (w1.alloc (exO un (.slice a3 l3 c3))).heap.size w2.heap.size) w2 (exV un (.slice a len cap)) (.mk un uk) ∧ Below (w1.alloc (exO un (.slice a3 l3 c3))).heap.size (w1.alloc (exO un (.slice a3 l3 c3))) w2 := by
    rcases hh with ⟨q, _⟩ | ⟨_, q⟩
    · exact absurd he q
    · exact q
  replace hT := hide hT
  clear hh m0 m15 m16
  have hb2 := hide hb
  have B2 := hide (step (next B1.out hb) (exO un (.slice a4 l4 c4)))
  have RB2 : Hid (Blk (w2.alloc (exO un (.slice a4 l4 c4))) (w.heap.size + 1 + 1) (exC nd0 (.slice none 0 0)) 37) := hide ((RB1.out.keep hb).alloc _)
  have SB2 : Hid (Blk (w2.alloc (exO un (.slice a4 l4 c4))) (w.heap.size + 1 + 1 + 1) (exC nd0 (.slice none 0 0)) 37) := hide ((SB1.out.keep hb).alloc _)
  have AB2 : Hid (Blk (w2.alloc (exO un (.slice a4 l4 c4))) w1.heap.size (exC un (.slice a3 l3 c3)) 37) := hide ((AB1.out.keep hb).alloc _)
  have BB2 : Hid (Blk (w2.alloc (exO un (.slice a4 l4 c4))) w2.heap.size (exC un (.slice a4 l4 c4)) 37) := hide (Blk.new w2 _ _)
  have hsn2 := run_putnew w2 un a4 l4 c4
  clear hb OB1 RB1 SB1 AB1 R1 hsn1
  go_wp2_with fail
  have Z3 : Hid (w.heap.size + 1 + 1 + 1 + 1 ≤ w1.heap.size ∧ w1.heap.size + 1 ≤ w2.heap.size) := hide ⟨by have := hb1.out.size; have := Z0.out; omega, by have := hb2.out.size; simp at this; omega⟩
  have K3 : Hid (∀ k, k < w2.heap.size → (w2.alloc (exO un (.slice a4 l4 c4))).heap[k]? = w2.heap[k]?) := hide (fun k hk => Below.heap_alloc _ _ k hk)
  have L3 : Hid ((w2.alloc (exO un (.slice a4 l4 c4))).heap.size = w2.heap.size + 1) := hide (by simp)
  clear hsn2
  generalize hw3 : w2.alloc (exO un (.slice a4 l4 c4)) = w3 at *
  clear hw3
  replace RB2 : Hid (Blk w3.drew (w.heap.size + 1 + 1) (exC nd0 (.slice none 0 0)) 37) := RB2
  replace SB2 : Hid (Blk w3.drew (w.heap.size + 1 + 1 + 1) (exC nd0 (.slice none 0 0)) 37) := SB2
  replace AB2 : Hid (Blk w3.drew w1.heap.size (exC un (.slice a3 l3 c3)) 37) := AB2
  replace BB2 : Hid (Blk w3.drew w2.heap.size (exC un (.slice a4 l4 c4)) 37) := BB2
  refine wp_region_any (by kernel_rfl) ?_
  change wpAny _ _ _ _ _ _ _ (World.drew _)
  have FR : Hid (Blk ((w3.drew.setRow (w.heap.size + 1 + 1) (exC un (.slice a3 l3 c3))).setRow (w.heap.size + 1 + 1 + 1) (exC un (.slice a4 l4 c4))) (w.heap.size + 1 + 1) (exC un (.slice a3 l3 c3)) 37) := hide (RB2.out.setRow.other (by omega))
  have FS : Hid (Blk ((w3.drew.setRow (w.heap.size + 1 + 1) (exC un (.slice a3 l3 c3))).setRow (w.heap.size + 1 + 1 + 1) (exC un (.slice a4 l4 c4))) (w.heap.size + 1 + 1 + 1) (exC un (.slice a4 l4 c4)) 37) := hide (Blk.setRow (SB2.out.other (by omega)))
  have FB : Hid (Below w.heap.size w ((w3.drew.setRow (w.heap.size + 1 + 1) (exC un (.slice a3 l3 c3))).setRow (w.heap.size + 1 + 1 + 1) (exC un (.slice a4 l4 c4)))) := hide (below_setRow (below_setRow B2.out.drew (by omega) _) (by omega) _)
  refine wpAny_take (i := 1) (v := (.int .i64 0)) rfl (by kernel_rfl) (by kernel_rfl) (by kernel_rfl) (fun _ _ _ h => h) (Or.inl ⟨by rfl, by intro w; go_simp⟩) ?_
  refine wpAny_take (i := 3) (v := (.int .i64 0)) rfl (by kernel_rfl) (by kernel_rfl) (by kernel_rfl) (fun _ _ _ h => h) (Or.inl ⟨by rfl, by intro w; go_simp⟩) ?_
  refine wpAny_ready (rs := [0, 2]) (by kernel_rfl) (by simp) ?_
  refine AllReady.cons rfl (fun K hK => ?_) ?_
  · refine step_load rfl _ rfl _ rfl un (.slice a3 l3 c3) (by with_reducible exact AB2.out) ?_
    try go_simp
    refine hK _ _ ?_
    clear hK K
    refine wpAny_ready (rs := [2, 4]) (by kernel_rfl) (by simp) ?_
    refine AllReady.cons rfl (fun K hK => ?_) ?_
    · refine step_load rfl _ rfl _ rfl un (.slice a4 l4 c4) (by with_reducible first | exact BB2.out | exact BB2.out.other (by have := Z3.out; omega)) ?_
      try go_simp
      refine hK _ _ ?_
      clear hK K
      refine wpAny_ready (rs := [4]) (by kernel_rfl) (by simp) ?_
      refine AllReady.cons rfl (fun K hK => ?_) ?_
      · refine step_store rfl _ _ rfl _ rfl un _ _ _ (rfl : _ = exV un (.slice a3 l3 c3)) _ _ (by with_reducible exact RB2.out) ?_
        try go_simp
        refine hK _ _ ?_
        clear hK K
        refine wpAny_ready (rs := [5]) (by kernel_rfl) (by simp) ?_
        refine AllReady.cons rfl (fun K hK => ?_) ?_
        · go_simp
          refine hK _ _ ?_
          clear hK K
          refine wpAny_ready (rs := [6]) (by kernel_rfl) (by simp) ?_
          refine AllReady.cons rfl (fun K hK => ?_) ?_
          · refine step_store rfl _ _ rfl _ rfl un _ _ _ (rfl : _ = exV un (.slice a4 l4 c4)) _ _ (by with_reducible exact SB2.out.other (by omega)) ?_
            try go_simp
            refine hK _ _ ?_
            clear hK K
            refine wpAny_ready (rs := [7]) (by kernel_rfl) (by simp) ?_
            refine AllReady.cons rfl (fun K hK => ?_) ?_
            · go_simp
              refine hK _ _ ?_
              clear hK K
              refine wpAny_done (by kernel_rfl) ?_ _
              go_wp2_with fail
              have hr1 := run_blk FR.out rfl
              have hr2 := run_blk FS.out rfl
              refine bodyPost_ret (v := .tuple #[exV un (.slice a3 l3 c3), (.int .i64 0), exV un (.slice a4 l4 c4), (.int .i64 0)]) (by simp [results, Try.results7, asAddr, hr1, hr2]; try rfl) rfl ?_
              obtain ⟨f1, f2⟩ := call_fin (ca := exC un (.slice a3 l3 c3)) (cb := exC un (.slice a4 l4 c4)) Z0.out hN.out hb1.out.size hb2.out hGh.out hT.out K3.out L3.out
              exact .inr ⟨he, _, _, _, _, _, _, _, rfl, f1, f2, FB.out⟩
            exact AllReady.nil
          exact AllReady.nil
        exact AllReady.nil
      exact AllReady.nil
    refine AllReady.cons rfl (fun K hK => ?_) ?_
    · refine step_store rfl _ _ rfl _ rfl un _ _ _ (rfl : _ = exV un (.slice a3 l3 c3)) _ _ (by with_reducible exact RB2.out) ?_
      try go_simp
      refine hK _ _ ?_
      clear hK K
      refine wpAny_ready (rs := [2, 5]) (by kernel_rfl) (by simp) ?_
      refine AllReady.cons rfl (fun K hK => ?_) ?_
      · refine step_load rfl _ rfl _ rfl un (.slice a4 l4 c4) (by with_reducible first | exact BB2.out | exact BB2.out.other (by have := Z3.out; omega)) ?_
        try go_simp
        refine hK _ _ ?_
        clear hK K
        refine wpAny_ready (rs := [5]) (by kernel_rfl) (by simp) ?_
        refine AllReady.cons rfl (fun K hK => ?_) ?_
        · go_simp
          refine hK _ _ ?_
          clear hK K
          refine wpAny_ready (rs := [6]) (by kernel_rfl) (by simp) ?_
          refine AllReady.cons rfl (fun K hK => ?_) ?_
          · refine step_store rfl _ _ rfl _ rfl un _ _ _ (rfl : _ = exV un (.slice a4 l4 c4)) _ _ (by with_reducible exact SB2.out.other (by omega)) ?_
            try go_simp
            refine hK _ _ ?_
            clear hK K
            refine wpAny_ready (rs := [7]) (by kernel_rfl) (by simp) ?_
            refine AllReady.cons rfl (fun K hK => ?_) ?_
            · go_simp
              refine hK _ _ ?_
              clear hK K
              refine wpAny_done (by kernel_rfl) ?_ _
              go_wp2_with fail
              have hr1 := run_blk FR.out rfl
              have hr2 := run_blk FS.out rfl
              refine bodyPost_ret (v := .tuple #[exV un (.slice a3 l3 c3), (.int .i64 0), exV un (.slice a4 l4 c4), (.int .i64 0)]) (by simp [results, Try.results7, asAddr, hr1, hr2]; try rfl) rfl ?_
              obtain ⟨f1, f2⟩ := call_fin (ca := exC un (.slice a3 l3 c3)) (cb := exC un (.slice a4 l4 c4)) Z0.out hN.out hb1.out.size hb2.out hGh.out hT.out K3.out L3.out
              exact .inr ⟨he, _, _, _, _, _, _, _, rfl, f1, f2, FB.out⟩
            exact AllReady.nil
          exact AllReady.nil
        exact AllReady.nil
      refine AllReady.cons rfl (fun K hK => ?_) ?_
      · go_simp
        refine hK _ _ ?_
        clear hK K
        refine wpAny_ready (rs := [2]) (by kernel_rfl) (by simp) ?_
        refine AllReady.cons rfl (fun K hK => ?_) ?_
        · refine step_load rfl _ rfl _ rfl un (.slice a4 l4 c4) (by with_reducible first | exact BB2.out | exact BB2.out.other (by have := Z3.out; omega)) ?_
          try go_simp
          refine hK _ _ ?_
          clear hK K
          refine wpAny_ready (rs := [6]) (by kernel_rfl) (by simp) ?_
          refine AllReady.cons rfl (fun K hK => ?_) ?_
          · refine step_store rfl _ _ rfl _ rfl un _ _ _ (rfl : _ = exV un (.slice a4 l4 c4)) _ _ (by with_reducible exact SB2.out.other (by omega)) ?_
            try go_simp
            refine hK _ _ ?_
            clear hK K
            refine wpAny_ready (rs := [7]) (by kernel_rfl) (by simp) ?_
            refine AllReady.cons rfl (fun K hK => ?_) ?_
            · go_simp
              refine hK _ _ ?_
              clear hK K
              refine wpAny_done (by kernel_rfl) ?_ _
              go_wp2_with fail
              have hr1 := run_blk FR.out rfl
              have hr2 := run_blk FS.out rfl
              refine bodyPost_ret (v := .tuple #[exV un (.slice a3 l3 c3), (.int .i64 0), exV un (.slice a4 l4 c4), (.int .i64 0)]) (by simp [results, Try.results7, asAddr, hr1, hr2]; try rfl) rfl ?_
              obtain ⟨f1, f2⟩ := call_fin (ca := exC un (.slice a3 l3 c3)) (cb := exC un (.slice a4 l4 c4)) Z0.out hN.out hb1.out.size hb2.out hGh.out hT.out K3.out L3.out
              exact .inr ⟨he, _, _, _, _, _, _, _, rfl, f1, f2, FB.out⟩
            exact AllReady.nil
          exact AllReady.nil
        exact AllReady.nil
      exact AllReady.nil
    exact AllReady.nil
  refine AllReady.cons rfl (fun K hK => ?_) ?_
  · refine step_load rfl _ rfl _ rfl un (.slice a4 l4 c4) (by with_reducible first | exact BB2.out | exact BB2.out.other (by have := Z3.out; omega)) ?_
    try go_simp
    refine hK _ _ ?_
    clear hK K
    refine wpAny_ready (rs := [0]) (by kernel_rfl) (by simp) ?_
    refine AllReady.cons rfl (fun K hK => ?_) ?_
    · refine step_load rfl _ rfl _ rfl un (.slice a3 l3 c3) (by with_reducible exact AB2.out) ?_
      try go_simp
      refine hK _ _ ?_
      clear hK K
      refine wpAny_ready (rs := [4]) (by kernel_rfl) (by simp) ?_
      refine AllReady.cons rfl (fun K hK => ?_) ?_
      · refine step_store rfl _ _ rfl _ rfl un _ _ _ (rfl : _ = exV un (.slice a3 l3 c3)) _ _ (by with_reducible exact RB2.out) ?_
        try go_simp
        refine hK _ _ ?_
        clear hK K
        refine wpAny_ready (rs := [5]) (by kernel_rfl) (by simp) ?_
        refine AllReady.cons rfl (fun K hK => ?_) ?_
        · go_simp
          refine hK _ _ ?_
          clear hK K
          refine wpAny_ready (rs := [6]) (by kernel_rfl) (by simp) ?_
          refine AllReady.cons rfl (fun K hK => ?_) ?_
          · refine step_store rfl _ _ rfl _ rfl un _ _ _ (rfl : _ = exV un (.slice a4 l4 c4)) _ _ (by with_reducible exact SB2.out.other (by omega)) ?_
            try go_simp
            refine hK _ _ ?_
            clear hK K
            refine wpAny_ready (rs := [7]) (by kernel_rfl) (by simp) ?_
            refine AllReady.cons rfl (fun K hK => ?_) ?_
            · go_simp
              refine hK _ _ ?_
              clear hK K
              refine wpAny_done (by kernel_rfl) ?_ _
              go_wp2_with fail
              have hr1 := run_blk FR.out rfl
              have hr2 := run_blk FS.out rfl
              refine bodyPost_ret (v := .tuple #[exV un (.slice a3 l3 c3), (.int .i64 0), exV un (.slice a4 l4 c4), (.int .i64 0)]) (by simp [results, Try.results7, asAddr, hr1, hr2]; try rfl) rfl ?_
              obtain ⟨f1, f2⟩ := call_fin (ca := exC un (.slice a3 l3 c3)) (cb := exC un (.slice a4 l4 c4)) Z0.out hN.out hb1.out.size hb2.out hGh.out hT.out K3.out L3.out
              exact .inr ⟨he, _, _, _, _, _, _, _, rfl, f1, f2, FB.out⟩
            exact AllReady.nil
          exact AllReady.nil
        exact AllReady.nil
      exact AllReady.nil
    exact AllReady.nil
  exact AllReady.nil
set_option maxHeartbeats 4000000 in
set_option maxRecDepth 100000 in
theorem call_3f (K M N : Int) (u : Ex) (n1 n2 : Nd) (a1 a2 : Option Addr) (l1 c1 l2 c2 : Nat) (w : World) (h1 : Tree w (exV n1 (.slice a1 l1 c1)) u) (G : Nat) (hG : G ≤ w.heap.size) (h2 : In (· < G) w (exV n2 (.slice a2 l2 c2)) u) (k1 : (K == 1) = false) (k2 : (K == 2) = false) (he : spotR u 0 M ≠ 0) :
    Calls Try.prog 7 #[.agg (opX K M N n2 (.slice a2 l2 c2)), exV n1 (.slice a1 l1 c1)] w fun e w' => ClP G w (spotR u 0 M) (movE (colR M N) u) e w' := by
  have OB := hide ((((Blk.new w (opX K M N n2 (.slice a2 l2 c2)) 39).alloc (exO n1 (.slice a1 l1 c1))).alloc (.cells #[.int .i64 0, .int .i64 0, .int .i64 0, .string { data := #[] }, .int .i64 0, .int .i64 0, .bool false, .bool false, .int .i64 0, .int .i64 0, .bool false, .bool false, .int .i64 0, .slice none 0 0] 37)).alloc (.cells #[.int .i64 0, .int .i64 0, .int .i64 0, .string { data := #[] }, .int .i64 0, .int .i64 0, .bool false, .bool false, .int .i64 0, .int .i64 0, .bool false, .bool false, .int .i64 0, .slice none 0 0] 37))
  have TB := hide (((Blk.new1 w (.cells (opX K M N n2 (.slice a2 l2 c2)) 39) (exC n1 (.slice a1 l1 c1)) 37).alloc (.cells #[.int .i64 0, .int .i64 0, .int .i64 0, .string { data := #[] }, .int .i64 0, .int .i64 0, .bool false, .bool false, .int .i64 0, .int .i64 0, .bool false, .bool false, .int .i64 0, .slice none 0 0] 37)).alloc (.cells #[.int .i64 0, .int .i64 0, .int .i64 0, .string { data := #[] }, .int .i64 0, .int .i64 0, .bool false, .bool false, .int .i64 0, .int .i64 0, .bool false, .bool false, .int .i64 0, .slice none 0 0] 37))
  have RB : Hid (Blk ((((w.alloc (.cells (opX K M N n2 (.slice a2 l2 c2)) 39)).alloc (exO n1 (.slice a1 l1 c1))).alloc (.cells #[.int .i64 0, .int .i64 0, .int .i64 0, .string { data := #[] }, .int .i64 0, .int .i64 0, .bool false, .bool false, .int .i64 0, .int .i64 0, .bool false, .bool false, .int .i64 0, .slice none 0 0] 37)).alloc (.cells #[.int .i64 0, .int .i64 0, .int .i64 0, .string { data := #[] }, .int .i64 0, .int .i64 0, .bool false, .bool false, .int .i64 0, .int .i64 0, .bool false, .bool false, .int .i64 0, .slice none 0 0] 37)) (w.heap.size + 1 + 1) (exC nd0 (.slice none 0 0)) 37) := hide ((Blk.new2 w (.cells (opX K M N n2 (.slice a2 l2 c2)) 39) (exO n1 (.slice a1 l1 c1)) (exC nd0 (.slice none 0 0)) 37).alloc (.cells #[.int .i64 0, .int .i64 0, .int .i64 0, .string { data := #[] }, .int .i64 0, .int .i64 0, .bool false, .bool false, .int .i64 0, .int .i64 0, .bool false, .bool false, .int .i64 0, .slice none 0 0] 37))
  have SB : Hid (Blk ((((w.alloc (.cells (opX K M N n2 (.slice a2 l2 c2)) 39)).alloc (exO n1 (.slice a1 l1 c1))).alloc (.cells #[.int .i64 0, .int .i64 0, .int .i64 0, .string { data := #[] }, .int .i64 0, .int .i64 0, .bool false, .bool false, .int .i64 0, .int .i64 0, .bool false, .bool false, .int .i64 0, .slice none 0 0] 37)).alloc (.cells #[.int .i64 0, .int .i64 0, .int .i64 0, .string { data := #[] }, .int .i64 0, .int .i64 0, .bool false, .bool false, .int .i64 0, .int .i64 0, .bool false, .bool false, .int .i64 0, .slice none 0 0] 37)) (w.heap.size + 1 + 1 + 1) (exC nd0 (.slice none 0 0)) 37) := hide (Blk.new3 w (.cells (opX K M N n2 (.slice a2 l2 c2)) 39) (exO n1 (.slice a1 l1 c1)) (.cells #[.int .i64 0, .int .i64 0, .int .i64 0, .string { data := #[] }, .int .i64 0, .int .i64 0, .bool false, .bool false, .int .i64 0, .int .i64 0, .bool false, .bool false, .int .i64 0, .slice none 0 0] 37) (exC nd0 (.slice none 0 0)) 37)
  have B0 := hide (step (step (step (step (Below.refl w.heap.size w) (.cells (opX K M N n2 (.slice a2 l2 c2)) 39)) (exO n1 (.slice a1 l1 c1))) (.cells #[.int .i64 0, .int .i64 0, .int .i64 0, .string { data := #[] }, .int .i64 0, .int .i64 0, .bool false, .bool false, .int .i64 0, .int .i64 0, .bool false, .bool false, .int .i64 0, .slice none 0 0] 37)) (.cells #[.int .i64 0, .int .i64 0, .int .i64 0, .string { data := #[] }, .int .i64 0, .int .i64 0, .bool false, .bool false, .int .i64 0, .int .i64 0, .bool false, .bool false, .int .i64 0, .slice none 0 0] 37))
  have Z0 : Hid (((((w.alloc (.cells (opX K M N n2 (.slice a2 l2 c2)) 39)).alloc (exO n1 (.slice a1 l1 c1))).alloc (.cells #[.int .i64 0, .int .i64 0, .int .i64 0, .string { data := #[] }, .int .i64 0, .int .i64 0, .bool false, .bool false, .int .i64 0, .int .i64 0, .bool false, .bool false, .int .i64 0, .slice none 0 0] 37)).alloc (.cells #[.int .i64 0, .int .i64 0, .int .i64 0, .string { data := #[] }, .int .i64 0, .int .i64 0, .bool false, .bool false, .int .i64 0, .int .i64 0, .bool false, .bool false, .int .i64 0, .slice none 0 0] 37)).heap.size = w.heap.size + 1 + 1 + 1 + 1) := hide (by simp)
  obtain ⟨w0, hw0⟩ : ∃ w0, ((((w.alloc (.cells (opX K M N n2 (.slice a2 l2 c2)) 39)).alloc (exO n1 (.slice a1 l1 c1))).alloc (.cells #[.int .i64 0, .int .i64 0, .int .i64 0, .string { data := #[] }, .int .i64 0, .int .i64 0, .bool false, .bool false, .int .i64 0, .int .i64 0, .bool false, .bool false, .int .i64 0, .slice none 0 0] 37)).alloc (.cells #[.int .i64 0, .int .i64 0, .int .i64 0, .string { data := #[] }, .int .i64 0, .int .i64 0, .bool false, .bool false, .int .i64 0, .int .i64 0, .bool false, .bool false, .int .i64 0, .slice none 0 0] 37)) = w0 := ⟨_, rfl⟩
  rw [hw0] at OB TB RB SB B0 Z0
  have HA := hide (cols_any u _ M N w0 (h1.step B0.out))
  have HB := hide (fun w' (h : Below w.heap.size w w') => rcols_any u _ M N G w' (Nat.le_trans hG h.size) (In.move (fun k hk => ⟨hk, h.block k (Nat.lt_of_lt_of_le hk hG)⟩) u h2))
  obtain ⟨m0, m15, m16⟩ := opX_c OB.out
  obtain ⟨un, uk, hu⟩ : ∃ un uk, movE (colR M N) u = .mk un uk := by cases movE (colR M N) u; exact ⟨_, _, rfl⟩
  rw [hu] at HA HB ⊢
  have hGh := hide hG
  clear hu h1 h2 hG
  go_enter Try.func7, Try.ntmps7
  go_wp2_with (refine wpList_load_blk rfl 37 _ rfl _ rfl _ (by with_reducible exact TB.out) _ Try.underlying37 rfl (exC_info _ _) ?_)
  clear hw0
  refine HA.out.mono ?_
  intro e w1 hh
  obtain ⟨rfl, hb⟩ : e = .returned (.tuple #[exV nd0 (.slice none 0 0), .int .i64 (spotR u 0 M)]) ∧ Below w0.heap.size w0 w1 := by
    rcases hh with ⟨_, q⟩ | ⟨q, _⟩
    · exact q
    · exact absurd q he
  clear hh m0 m15 m16
  have hb1 := hide hb
  have B1 := hide (step (next B0.out hb) (exO nd0 (.slice none 0 0)))
  have OB1 : Hid (Blk (w1.alloc (exO nd0 (.slice none 0 0))) w.heap.size (opX K M N n2 (.slice a2 l2 c2)) 39) := hide ((OB.out.keep hb).alloc _)
  have RB1 : Hid (Blk (w1.alloc (exO nd0 (.slice none 0 0))) (w.heap.size + 1 + 1) (exC nd0 (.slice none 0 0)) 37) := hide ((RB.out.keep hb).alloc _)
  have SB1 : Hid (Blk (w1.alloc (exO nd0 (.slice none 0 0))) (w.heap.size + 1 + 1 + 1) (exC nd0 (.slice none 0 0)) 37) := hide ((SB.out.keep hb).alloc _)
  have AB1 : Hid (Blk (w1.alloc (exO nd0 (.slice none 0 0))) w1.heap.size (exC nd0 (.slice none 0 0)) 37) := hide (Blk.new w1 _ _)
  have R1 := hide (opX_rng OB1.out)
  obtain ⟨m0, m15, m16⟩ := opX_c OB1.out
  have hsn1 := run_putnew w1 nd0 none 0 0
  clear hb OB TB RB SB
  go_wp2_with (refine wpList_load_at rfl 37 _ rfl _ _ rfl _ _ (by with_reducible exact R1.out) Try.underlying37 rfl (exC_info _ _) ?_)
  refine (HB.out _ B1.out).mono ?_
  intro e w2 hh
  obtain ⟨rfl, hb⟩ : e = .returned (.tuple #[exV nd0 (.slice none 0 0), .int .i64 (spotR u 0 M)]) ∧ Below (w1.alloc (exO nd0 (.slice none 0 0))).heap.size (w1.alloc (exO nd0 (.slice none 0 0))) w2 := by
    rcases hh with ⟨_, q⟩ | ⟨q, _⟩
    · exact q
    · exact absurd q he
  clear hh m0 m15 m16
  have hb2 := hide hb
  have B2 := hide (step (next B1.out hb) (exO nd0 (.slice none 0 0)))
  have RB2 : Hid (Blk (w2.alloc (exO nd0 (.slice none 0 0))) (w.heap.size + 1 + 1) (exC nd0 (.slice none 0 0)) 37) := hide ((RB1.out.keep hb).alloc _)
  have SB2 : Hid (Blk (w2.alloc (exO nd0 (.slice none 0 0))) (w.heap.size + 1 + 1 + 1) (exC nd0 (.slice none 0 0)) 37) := hide ((SB1.out.keep hb).alloc _)
  have AB2 : Hid (Blk (w2.alloc (exO nd0 (.slice none 0 0))) w1.heap.size (exC nd0 (.slice none 0 0)) 37) := hide ((AB1.out.keep hb).alloc _)
  have BB2 : Hid (Blk (w2.alloc (exO nd0 (.slice none 0 0))) w2.heap.size (exC nd0 (.slice none 0 0)) 37) := hide (Blk.new w2 _ _)
  have hsn2 := run_putnew w2 nd0 none 0 0
  clear hb OB1 RB1 SB1 AB1 R1 hsn1
  go_wp2_with fail
  have Z3 : Hid (w.heap.size + 1 + 1 + 1 + 1 ≤ w1.heap.size ∧ w1.heap.size + 1 ≤ w2.heap.size) := hide ⟨by have := hb1.out.size; have := Z0.out; omega, by have := hb2.out.size; simp at this; omega⟩
  have K3 : Hid (∀ k, k < w2.heap.size → (w2.alloc (exO nd0 (.slice none 0 0))).heap[k]? = w2.heap[k]?) := hide (fun k hk => Below.heap_alloc _ _ k hk)
  have L3 : Hid ((w2.alloc (exO nd0 (.slice none 0 0))).heap.size = w2.heap.size + 1) := hide (by simp)
  clear hsn2
  generalize hw3 : w2.alloc (exO nd0 (.slice none 0 0)) = w3 at *
  clear hw3
  replace RB2 : Hid (Blk w3.drew (w.heap.size + 1 + 1) (exC nd0 (.slice none 0 0)) 37) := RB2
  replace SB2 : Hid (Blk w3.drew (w.heap.size + 1 + 1 + 1) (exC nd0 (.slice none 0 0)) 37) := SB2
  replace AB2 : Hid (Blk w3.drew w1.heap.size (exC nd0 (.slice none 0 0)) 37) := AB2
  replace BB2 : Hid (Blk w3.drew w2.heap.size (exC nd0 (.slice none 0 0)) 37) := BB2
  refine wp_region_any (by kernel_rfl) ?_
  change wpAny _ _ _ _ _ _ _ (World.drew _)
  have FR : Hid (Blk ((w3.drew.setRow (w.heap.size + 1 + 1) (exC nd0 (.slice none 0 0))).setRow (w.heap.size + 1 + 1 + 1) (exC nd0 (.slice none 0 0))) (w.heap.size + 1 + 1) (exC nd0 (.slice none 0 0)) 37) := hide (RB2.out.setRow.other (by omega))
  have FS : Hid (Blk ((w3.drew.setRow (w.heap.size + 1 + 1) (exC nd0 (.slice none 0 0))).setRow (w.heap.size + 1 + 1 + 1) (exC nd0 (.slice none 0 0))) (w.heap.size + 1 + 1 + 1) (exC nd0 (.slice none 0 0)) 37) := hide (Blk.setRow (SB2.out.other (by omega)))
  have FB : Hid (Below w.heap.size w ((w3.drew.setRow (w.heap.size + 1 + 1) (exC nd0 (.slice none 0 0))).setRow (w.heap.size + 1 + 1 + 1) (exC nd0 (.slice none 0 0)))) := hide (below_setRow (below_setRow B2.out.drew (by omega) _) (by omega) _)
  refine wpAny_take (i := 1) (v := (.int .i64 (spotR u 0 M))) rfl (by kernel_rfl) (by kernel_rfl) (by kernel_rfl) (fun _ _ _ h => h) (Or.inl ⟨by rfl, by intro w; go_simp⟩) ?_
  refine wpAny_take (i := 3) (v := (.int .i64 (spotR u 0 M))) rfl (by kernel_rfl) (by kernel_rfl) (by kernel_rfl) (fun _ _ _ h => h) (Or.inl ⟨by rfl, by intro w; go_simp⟩) ?_
  refine wpAny_ready (rs := [0, 2]) (by kernel_rfl) (by simp) ?_
  refine AllReady.cons rfl (fun K hK => ?_) ?_
  · refine step_load rfl _ rfl _ rfl nd0 (.slice none 0 0) (by with_reducible exact AB2.out) ?_
    try go_simp
    refine hK _ _ ?_
    clear hK K
    refine wpAny_ready (rs := [2, 4]) (by kernel_rfl) (by simp) ?_
    refine AllReady.cons rfl (fun K hK => ?_) ?_
    · refine step_load rfl _ rfl _ rfl nd0 (.slice none 0 0) (by with_reducible first | exact BB2.out | exact BB2.out.other (by have := Z3.out; omega)) ?_
      try go_simp
      refine hK _ _ ?_
      clear hK K
      refine wpAny_ready (rs := [4]) (by kernel_rfl) (by simp) ?_
      refine AllReady.cons rfl (fun K hK => ?_) ?_
      · refine step_store rfl _ _ rfl _ rfl nd0 _ _ _ (rfl : _ = exV nd0 (.slice none 0 0)) _ _ (by with_reducible exact RB2.out) ?_
        try go_simp
        refine hK _ _ ?_
        clear hK K
        refine wpAny_ready (rs := [5]) (by kernel_rfl) (by simp) ?_
        refine AllReady.cons rfl (fun K hK => ?_) ?_
        · go_simp
          refine hK _ _ ?_
          clear hK K
          refine wpAny_ready (rs := [6]) (by kernel_rfl) (by simp) ?_
          refine AllReady.cons rfl (fun K hK => ?_) ?_
          · refine step_store rfl _ _ rfl _ rfl nd0 _ _ _ (rfl : _ = exV nd0 (.slice none 0 0)) _ _ (by with_reducible exact SB2.out.other (by omega)) ?_
            try go_simp
            refine hK _ _ ?_
            clear hK K
            refine wpAny_ready (rs := [7]) (by kernel_rfl) (by simp) ?_
            refine AllReady.cons rfl (fun K hK => ?_) ?_
            · go_simp
              refine hK _ _ ?_
              clear hK K
              refine wpAny_done (by kernel_rfl) ?_ _
              go_wp2_with fail
              have hr1 := run_blk FR.out rfl
              have hr2 := run_blk FS.out rfl
              refine bodyPost_ret (v := .tuple #[exV nd0 (.slice none 0 0), (.int .i64 (spotR u 0 M)), exV nd0 (.slice none 0 0), (.int .i64 (spotR u 0 M))]) (by simp [results, Try.results7, asAddr, hr1, hr2]; try rfl) rfl ?_
              exact .inl ⟨he, rfl, FB.out⟩
            exact AllReady.nil
          exact AllReady.nil
        exact AllReady.nil
      exact AllReady.nil
    refine AllReady.cons rfl (fun K hK => ?_) ?_
    · refine step_store rfl _ _ rfl _ rfl nd0 _ _ _ (rfl : _ = exV nd0 (.slice none 0 0)) _ _ (by with_reducible exact RB2.out) ?_
      try go_simp
      refine hK _ _ ?_
      clear hK K
      refine wpAny_ready (rs := [2, 5]) (by kernel_rfl) (by simp) ?_
      refine AllReady.cons rfl (fun K hK => ?_) ?_
      · refine step_load rfl _ rfl _ rfl nd0 (.slice none 0 0) (by with_reducible first | exact BB2.out | exact BB2.out.other (by have := Z3.out; omega)) ?_
        try go_simp
        refine hK _ _ ?_
        clear hK K
        refine wpAny_ready (rs := [5]) (by kernel_rfl) (by simp) ?_
        refine AllReady.cons rfl (fun K hK => ?_) ?_
        · go_simp
          refine hK _ _ ?_
          clear hK K
          refine wpAny_ready (rs := [6]) (by kernel_rfl) (by simp) ?_
          refine AllReady.cons rfl (fun K hK => ?_) ?_
          · refine step_store rfl _ _ rfl _ rfl nd0 _ _ _ (rfl : _ = exV nd0 (.slice none 0 0)) _ _ (by with_reducible exact SB2.out.other (by omega)) ?_
            try go_simp
            refine hK _ _ ?_
            clear hK K
            refine wpAny_ready (rs := [7]) (by kernel_rfl) (by simp) ?_
            refine AllReady.cons rfl (fun K hK => ?_) ?_
            · go_simp
              refine hK _ _ ?_
              clear hK K
              refine wpAny_done (by kernel_rfl) ?_ _
              go_wp2_with fail
              have hr1 := run_blk FR.out rfl
              have hr2 := run_blk FS.out rfl
              refine bodyPost_ret (v := .tuple #[exV nd0 (.slice none 0 0), (.int .i64 (spotR u 0 M)), exV nd0 (.slice none 0 0), (.int .i64 (spotR u 0 M))]) (by simp [results, Try.results7, asAddr, hr1, hr2]; try rfl) rfl ?_
              exact .inl ⟨he, rfl, FB.out⟩
            exact AllReady.nil
          exact AllReady.nil
        exact AllReady.nil
      refine AllReady.cons rfl (fun K hK => ?_) ?_
      · go_simp
        refine hK _ _ ?_
        clear hK K
        refine wpAny_ready (rs := [2]) (by kernel_rfl) (by simp) ?_
        refine AllReady.cons rfl (fun K hK => ?_) ?_
        · refine step_load rfl _ rfl _ rfl nd0 (.slice none 0 0) (by with_reducible first | exact BB2.out | exact BB2.out.other (by have := Z3.out; omega)) ?_
          try go_simp
          refine hK _ _ ?_
          clear hK K
          refine wpAny_ready (rs := [6]) (by kernel_rfl) (by simp) ?_
          refine AllReady.cons rfl (fun K hK => ?_) ?_
          · refine step_store rfl _ _ rfl _ rfl nd0 _ _ _ (rfl : _ = exV nd0 (.slice none 0 0)) _ _ (by with_reducible exact SB2.out.other (by omega)) ?_
            try go_simp
            refine hK _ _ ?_
            clear hK K
            refine wpAny_ready (rs := [7]) (by kernel_rfl) (by simp) ?_
            refine AllReady.cons rfl (fun K hK => ?_) ?_
            · go_simp
              refine hK _ _ ?_
              clear hK K
              refine wpAny_done (by kernel_rfl) ?_ _
              go_wp2_with fail
              have hr1 := run_blk FR.out rfl
              have hr2 := run_blk FS.out rfl
              refine bodyPost_ret (v := .tuple #[exV nd0 (.slice none 0 0), (.int .i64 (spotR u 0 M)), exV nd0 (.slice none 0 0), (.int .i64 (spotR u 0 M))]) (by simp [results, Try.results7, asAddr, hr1, hr2]; try rfl) rfl ?_
              exact .inl ⟨he, rfl, FB.out⟩
            exact AllReady.nil
          exact AllReady.nil
        exact AllReady.nil
      exact AllReady.nil
    exact AllReady.nil
  refine AllReady.cons rfl (fun K hK => ?_) ?_
  · refine step_load rfl _ rfl _ rfl nd0 (.slice none 0 0) (by with_reducible first | exact BB2.out | exact BB2.out.other (by have := Z3.out; omega)) ?_
    try go_simp
    refine hK _ _ ?_
    clear hK K
    refine wpAny_ready (rs := [0]) (by kernel_rfl) (by simp) ?_
    refine AllReady.cons rfl (fun K hK => ?_) ?_
    · refine step_load rfl _ rfl _ rfl nd0 (.slice none 0 0) (by with_reducible exact AB2.out) ?_
      try go_simp
      refine hK _ _ ?_
      clear hK K
      refine wpAny_ready (rs := [4]) (by kernel_rfl) (by simp) ?_
      refine AllReady.cons rfl (fun K hK => ?_) ?_
      · refine step_store rfl _ _ rfl _ rfl nd0 _ _ _ (rfl : _ = exV nd0 (.slice none 0 0)) _ _ (by with_reducible exact RB2.out) ?_
        try go_simp
        refine hK _ _ ?_
        clear hK K
        refine wpAny_ready (rs := [5]) (by kernel_rfl) (by simp) ?_
        refine AllReady.cons rfl (fun K hK => ?_) ?_
        · go_simp
          refine hK _ _ ?_
          clear hK K
          refine wpAny_ready (rs := [6]) (by kernel_rfl) (by simp) ?_
          refine AllReady.cons rfl (fun K hK => ?_) ?_
          · refine step_store rfl _ _ rfl _ rfl nd0 _ _ _ (rfl : _ = exV nd0 (.slice none 0 0)) _ _ (by with_reducible exact SB2.out.other (by omega)) ?_
            try go_simp
            refine hK _ _ ?_
            clear hK K
            refine wpAny_ready (rs := [7]) (by kernel_rfl) (by simp) ?_
            refine AllReady.cons rfl (fun K hK => ?_) ?_
            · go_simp
              refine hK _ _ ?_
              clear hK K
              refine wpAny_done (by kernel_rfl) ?_ _
              go_wp2_with fail
              have hr1 := run_blk FR.out rfl
              have hr2 := run_blk FS.out rfl
              refine bodyPost_ret (v := .tuple #[exV nd0 (.slice none 0 0), (.int .i64 (spotR u 0 M)), exV nd0 (.slice none 0 0), (.int .i64 (spotR u 0 M))]) (by simp [results, Try.results7, asAddr, hr1, hr2]; try rfl) rfl ?_
              exact .inl ⟨he, rfl, FB.out⟩
            exact AllReady.nil
          exact AllReady.nil
        exact AllReady.nil
      exact AllReady.nil
    exact AllReady.nil
  exact AllReady.nil
end Go.Proofs.Ytiajoppbgebnpaa
namespace Go.Proofs.Ytiajoppbgebnpaa
open Go.RowKit Go.Sort
set_option linter.unusedVariables false

/-- The error that a call answers. -/
def clEr (K M : Int) (u : Ex) : Int := if K = 1 then mayR u else if K = 2 then spotR u M 0 else spotR u 0 M
/-- How a call moves. -/
def clMv (K M N : Int) : Mv := if K = 1 then pasR M N else if K = 2 then rowR M N else colR M N
theorem call_any (K M N : Int) (u : Ex) (n1 n2 : Nd) (a1 a2 : Option Addr) (l1 c1 l2 c2 : Nat) (w : World) (h1 : Tree w (exV n1 (.slice a1 l1 c1)) u) (G : Nat) (hG : G ≤ w.heap.size) (h2 : In (· < G) w (exV n2 (.slice a2 l2 c2)) u) :
    Calls Try.prog 7 #[.agg (opX K M N n2 (.slice a2 l2 c2)), exV n1 (.slice a1 l1 c1)] w fun e w' => ClP G w (clEr K M u) (movE (clMv K M N) u) e w' := by
  unfold clEr clMv
  by_cases k1 : K = 1
  · rw [if_pos k1, if_pos k1]
    by_cases he : mayR u = 0
    · exact call_1t K M N u n1 n2 a1 a2 l1 c1 l2 c2 w h1 G hG h2 (by simp [k1]) he
    · exact call_1f K M N u n1 n2 a1 a2 l1 c1 l2 c2 w h1 G hG h2 (by simp [k1]) he
  · rw [if_neg k1, if_neg k1]
    by_cases k2 : K = 2
    · rw [if_pos k2, if_pos k2]
      by_cases he : spotR u M 0 = 0
      · exact call_2t K M N u n1 n2 a1 a2 l1 c1 l2 c2 w h1 G hG h2 (by simp [k1]) (by simp [k2]) he
      · exact call_2f K M N u n1 n2 a1 a2 l1 c1 l2 c2 w h1 G hG h2 (by simp [k1]) (by simp [k2]) he
    · rw [if_neg k2, if_neg k2]
      by_cases he : spotR u 0 M = 0
      · exact call_3t K M N u n1 n2 a1 a2 l1 c1 l2 c2 w h1 G hG h2 (by simp [k1]) (by simp [k2]) he
      · exact call_3f K M N u n1 n2 a1 a2 l1 c1 l2 c2 w h1 G hG h2 (by simp [k1]) (by simp [k2]) he
end Go.Proofs.Ytiajoppbgebnpaa
