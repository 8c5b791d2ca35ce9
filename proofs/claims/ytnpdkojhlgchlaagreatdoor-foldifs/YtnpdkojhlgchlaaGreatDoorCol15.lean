/- The law's column: numbers, at most 300, as values, and an area of so many places. Proved of the Go text. -/
import Derived.Test.YtnpdkojhlgchlaaGreatDoorRun15
namespace Go.Proofs.YtnpdkojhlgchlaaGreatDoor
open Go.RowKit Go.Sort
open T9 (Blk Chg)
set_option linter.unusedVariables false

abbrev vaC (x : Va) : List Value := [.int .i64 x.k, .int .i64 x.i, .string x.t]
def flV (L : List Va) : List Value := L.flatMap vaC
theorem flV_app (L M : List Va) : flV (L ++ M) = flV L ++ flV M := by simp [flV]
theorem flV_at : ∀ (L : List Va) (j : Nat) (x : Va), L[j]? = some x → (flV L)[j * 3]? = some (.int .i64 x.k) ∧ (flV L)[j * 3 + 1]? = some (.int .i64 x.i) ∧ (flV L)[j * 3 + 2]? = some (.string x.t)
  | [], j, x, h => by simp at h
  | y :: L, 0, x, h => by obtain rfl : y = x := by simpa using h
                          exact ⟨rfl, rfl, rfl⟩
  | y :: L, j + 1, x, h => by
    have ih := flV_at L j x (by simpa using h)
    have e : flV (y :: L) = vaC y ++ flV L := by simp [flV]
    rw [e, show (j + 1) * 3 = 3 + j * 3 by omega]
    refine ⟨?_, ?_, ?_⟩
    · rw [List.getElem?_append_right (by simp)]; simpa using ih.1
    · rw [List.getElem?_append_right (by simp; omega)]; simp only [List.length_cons, List.length_nil]; rw [show 3 + j * 3 + 1 - (0 + 1 + 1 + 1) = j * 3 + 1 by omega]; exact ih.2.1
    · rw [List.getElem?_append_right (by simp; omega)]; simp only [List.length_cons, List.length_nil]; rw [show 3 + j * 3 + 2 - (0 + 1 + 1 + 1) = j * 3 + 2 by omega]; exact ih.2.2
def RowV (w : World) (B : Nat) (v : Value) (L : List Va) : Prop := w.ownsRow B 31 3 v L.length (flV L)
theorem RowV.keep {w w' : World} {B : Nat} {v : Value} {L : List Va} (h : RowV w B v L) (hb : Below w.heap.size w w') : RowV w' B v L := owns_keep h (fun k hk => hb.block k (owns_lt h k hk).2)
theorem RowV.nil (w : World) (B : Nat) : RowV w B (.slice none 0 0) [] := ⟨rfl, .inl ⟨rfl, rfl⟩⟩
theorem RowV.shapeN {w : World} {B : Nat} {v : Value} {L : List Va} (h : RowV w B v L) : ∃ a n cap, v = .slice a n cap ∧ n = L.length := by
  rcases h.2 with ⟨rfl, h2⟩ | ⟨g, cap, cur, rfl, _⟩
  · exact ⟨none, 0, 0, rfl, h2.symm⟩
  · exact ⟨_, _, cap, rfl, rfl⟩
theorem RowV.vals {w : World} {B : Nat} {a : Option Addr} {n cap : Nat} {L : List Va} (h : RowV w B (.slice a n cap) L) : ValsAt w a L := by
  rcases h.2 with ⟨hv, h2⟩ | ⟨g, cap', cur, hv, _, hr, _, _, _, ht⟩
  · exact .inl (List.eq_nil_of_length_eq_zero h2)
  · simp only [Value.slice.injEq] at hv
    obtain ⟨rfl, _, _⟩ := hv
    refine .inr ⟨g, 0, rfl, fun j x hx => ?_⟩
    obtain ⟨c0, c1, c2⟩ := flV_at L j x hx
    have hcell : ∀ (o : Nat) (u : Value), (flV L)[o]? = some u → w.cell? ⟨g, o, none⟩ = some u := fun o u hu => by
      rw [cell_of_row w g o cur _ (0, 0) hr, ← Array.getElem?_toList]
      rw [← ht, List.getElem?_take] at hu
      split at hu
      · exact hu
      · cases hu
    rw [Nat.zero_add]
    exact ⟨hcell _ _ c0, hcell _ _ c1, hcell _ _ c2⟩
theorem info_va : (Tryz.prog.info? 31).map (fun i => (i.zero, i.size, i.bytes)) = some (some (.agg #[.int .i64 0, .int .i64 0, .string no]), 3, 32) := by kernel_rfl
section
variable {w : World} {ops : Array Oper} {rest : List Oper} {o : Oper} {a : Act} {Q : Exit → Act → World → Prop} {B X : Nat} {v : Value} {L : List Va}
theorem wpList_appV (hg : o.guard = none) (s y : Operand) (hop : o.op = Op.call { callee := Callee.builtin Builtin.append, args := #[s, y], argTypes := #[37, 37] })
    (hs : a.eval s = v) (hx : a.eval y = .slice (some ⟨X, 0, none⟩) 1 1) (hown : RowV w B v L) (p : Va) (hc : w.rangeAt X 0 (vaC p)) (hl : L.length < 1000000) (hB : B ≤ w.heap.size)
    (hK : ∀ v' w', RowV w' B v' (L ++ [p]) → w.grownBy w' v.ownBlock → wpList Tryz.prog ops Q rest (a.put o.dst v') w') : wpList Tryz.prog ops Q (o :: rest) a w := by
  obtain ⟨i0, hi, hz0, hz1, hz2⟩ := info_parts info_va
  refine wpList_append_own_at _ hg s y 37 hop B 31 i0 _ 3 32 Tryz.underlying37 hi hz0 hz1 hz2 rfl (by decide) v L.length (flV L) hs hown ⟨X, 0, none⟩ 1 1 (vaC p) hx rfl (fun j u hj => by rw [Addr.add_mid, Nat.zero_add]; have := hc j u hj; rwa [Nat.zero_add] at this) (fun u hu => by simp at hu; rcases hu with rfl | rfl | rfl <;> rfl) (by unfold maxLen; omega) (by omega) hB ?_
  intro v' w' h1 h2 _ h4
  exact hK v' w' (by unfold RowV; rw [flV_app, List.length_append]; simpa [flV] using h1) h2
end
/-- Numbers that were handed in. -/
def IntsAt (w : World) (a : Option Addr) (ns : List Int) : Prop := ns = [] ∨ ∃ b o, a = some ⟨b, o, none⟩ ∧ ∀ (j : Nat) (x : Int), ns[j]? = some x → w.cell? ⟨b, o + j, none⟩ = some (.int .i64 x)
theorem IntsAt.keep {w w' : World} {a : Option Addr} {ns : List Int} (h : IntsAt w a ns) (hb : Below w.heap.size w w') : IntsAt w' a ns := by
  rcases h with h | ⟨b, o, h, g⟩
  · exact .inl h
  · exact .inr ⟨b, o, h, fun j x hx => keep1 hb (g j x hx)⟩
theorem IntsAt.take {w : World} {a : Option Addr} {ns : List Int} (h : IntsAt w a ns) (n : Nat) : IntsAt w a (ns.take n) := by
  rcases h with h | ⟨b, o, h, g⟩
  · left; rw [h]; simp
  · exact .inr ⟨b, o, h, fun j x hx => g j x (by rw [List.getElem?_take] at hx; split at hx; exact hx; cases hx)⟩
abbrev nmV (n : Int) : Va := ⟨1, n, no⟩
theorem slice300 (b o len cap : Nat) (hl : 300 < len) (hc : len ≤ cap) (w : World) : (Instr.slice 36 (.slice (some ⟨b, o, none⟩) len cap) none (some (.int .i64 300)) none).run Tryz.prog w = .ok (.slice (some ⟨b, o, none⟩) 300 cap) w := by
  have hu := Tryz.underlying36
  have h1 : (300 : Int) ≤ (cap : Int) := by omega
  go_simp
  try (intro h; omega)
  try (rw [if_pos (by omega)])
set_option maxHeartbeats 4000000 in
set_option maxRecDepth 100000 in
theorem column_s (ns : List Int) (m : Nat) (hm3 : m ≤ 300) (hm : ns.length = m)  (a : Option Addr) (cap : Nat) (w : World) (h : IntsAt w a ns)  :
    Calls Tryz.prog 7 #[.slice a m cap] w fun e w' => ∃ v, e = .returned (.tuple #[.slice a m cap, v, agV ⟨true, 0, 0, (m : Int) - 1, 0, ⟨0, 0, no⟩⟩]) ∧ RowV w' (w.heap.size + 1) v (ns.map nmV) ∧ Below w.heap.size w w' := by
  have h3 := hide (h.keep (step (Below.refl w.heap.size w) (agO ⟨false, 0, 0, 0, 0, ⟨0, 0, no⟩⟩)))
  have HCe := cells_is (m : Int) (by omega) (by omega)
  replace hm := hide hm
  clear h
  have pl : ¬ (300 : Int) < (m : Int) := by omega
  go_enter Tryz.func7, Tryz.ntmps7
  go_wp2_with fail
  go_loopw [5, 6] (fun l i wr => ∃ n : Nat, n ≤ m ∧ i = .int .i64 (n : Int) ∧ Hid (RowV wr (w.heap.size + 1) l ((ns.take n).map nmV)) ∧ Hid (Below (w.heap.size + 1) (w.alloc (agO ⟨false, 0, 0, 0, 0, ⟨0, 0, no⟩⟩)) wr)) (fun _ i _ => m - (intOf i).toNat)
  case atStart => exact ⟨0, Nat.zero_le _, rfl, hide (RowV.nil _ _), hide (Below.refl _ _)⟩
  case round =>
    obtain ⟨n, hn, rfl, HR, HB⟩ := hrel
    have hz : Hid (w.heap.size + 1 ≤ wr.heap.size) := hide (by have := HB.out.size; simpa using this)
    obtain ⟨al, nl, cl, rfl, hnl⟩ := HR.out.shapeN
    replace hnl := hide hnl
    by_cases hlt : n < m
    · have p0 : (n : Int) < (m : Int) := by omega
      have hn' : n < ns.length := by have := hm.out; omega
      obtain ⟨b, o, rfl, ho⟩ : ∃ b o, a = some ⟨b, o, none⟩ ∧ ∀ (j : Nat) (x : Int), ns[j]? = some x → (w.alloc (agO ⟨false, 0, 0, 0, 0, ⟨0, 0, no⟩⟩)).cell? ⟨b, o + j, none⟩ = some (.int .i64 x) := by
        rcases h3.out with h | h
        · rw [h] at hn'; cases hn'
        · exact h
      have a0 : wr.cell? ⟨b, o + n, none⟩ = some (.int .i64 ns[n]) := by
        have e := ho n _ (List.getElem?_eq_getElem hn')
        have hl := block_lt_of_cell e
        simp only [World.size_alloc] at hl
        rw [HB.out.cell (p := ⟨b, o + n, none⟩) hl]; exact e
      have htk : Hid ((ns.take n).map nmV ++ [nmV ns[n]] = (ns.take (n + 1)).map nmV) := hide (by rw [List.take_succ_eq_append_getElem hn', List.map_append]; rfl)
      generalize ns[n] = x at *
      have HN := lnum_is x
      clear ho hn'
      go_wp2_with fail
      refine (HN.out _).mono ?_
      rintro e w2 ⟨rfl, hb2⟩
      have K2 := hide (HB.out.trans (hb2.mono hz.out))
      have R3 := hide ((HR.out.keep hb2).keep (step (Below.refl w2.heap.size w2) (vO 1 x no)))
      have hrg : Hid ((w2.alloc (vO 1 x no)).rangeAt w2.heap.size 0 (vaC (nmV x))) := hide (fun jj u hu => by
        have hb := Blk.new w2 #[.int .i64 1, .int .i64 x, .string no] 31
        rw [hb.at', Nat.zero_add]
        simpa using hu)
      have hac : Hid (((ns.take n).map nmV).length < 1000000) := hide (by rw [List.length_map, List.length_take]; omega)
      have hBB : Hid (w.heap.size + 1 ≤ (w2.alloc (vO 1 x no)).heap.size) := hide (Nat.le_trans hz.out (Nat.le_trans hb2.size (by simp)))
      have K3 := hide (K2.out.alloc (Nat.le_trans hz.out hb2.size) (vO 1 x no))
      clear hb2 a0
      go_wp2_with (refine wpList_appV rfl _ _ rfl rfl rfl R3.out (nmV x) hrg.out hac.out hBB.out ?_; intro v5 w5 g1 g2)
      rw [htk.out] at g1
      refine ⟨⟨n + 1, hlt, rfl, hide g1, hide ?_⟩, ?_⟩
      · exact ⟨g2.os.trans K3.out.os, g2.tape.trans K3.out.tape, g2.output.trans K3.out.output, Nat.le_trans K3.out.size g2.size, fun k hk => (g2.block k (Nat.lt_of_lt_of_le hk hBB.out) (fun e => by have := (owns_lt R3.out k e.symm).1; omega)).trans (K3.out.block k hk)⟩
      · have h1 : (intOf (.int .i64 ((n : Int) + 1))).toNat = n + 1 := rfl
        have h2 : (intOf (.int .i64 (n : Int))).toNat = n := rfl
        rw [h1, h2]
        omega
    · obtain rfl : m = n := by omega
      have htk : Hid (ns.take m = ns) := hide (by rw [← hm.out]; exact List.take_length)
      have hbx : Hid (Blk wr w.heap.size #[.bool false, .int .i64 0, .int .i64 0, .int .i64 0, .int .i64 0, .int .i64 0, .int .i64 0, .string no] 41) := hide ((HB.out.block w.heap.size (Nat.lt_succ_self _)).trans (Blk.new w _ _))
      go_wp2_with fail
      refine (HCe.out _).mono ?_
      rintro e w3 ⟨rfl, hb3⟩
      have R3 := hide (HR.out.keep hb3)
      have K3 := hide (HB.out.trans (hb3.mono hz.out))
      have bx := hide (hbx.out.keep hb3)
      have z0 : w3.cell? ⟨w.heap.size, 0, none⟩ = some (.bool false) := bx.out.at' 0
      have z1 : w3.cell? ⟨w.heap.size, 1, none⟩ = some (.int .i64 0) := bx.out.at' 1
      have z2 : w3.cell? ⟨w.heap.size, 2, none⟩ = some (.int .i64 0) := bx.out.at' 2
      have z3 : w3.cell? ⟨w.heap.size, 3, none⟩ = some (.int .i64 0) := bx.out.at' 3
      have z4 : w3.cell? ⟨w.heap.size, 4, none⟩ = some (.int .i64 0) := bx.out.at' 4
      have z5 : w3.cell? ⟨w.heap.size, 5, none⟩ = some (.int .i64 0) := bx.out.at' 5
      have z6 : w3.cell? ⟨w.heap.size, 6, none⟩ = some (.int .i64 0) := bx.out.at' 6
      have z7 : w3.cell? ⟨w.heap.size, 7, none⟩ = some (.string no) := bx.out.at' 7
      have zf := bx.out.fr
      have h9 := ((((((((bx.out.set 0 (.bool true)).set 1 (.int .i64 0)).set 2 (.int .i64 0)).set 3 (.int .i64 ((m : Int) - 1))).set 4 (.int .i64 0)).set 5 (.int .i64 0)).set 6 (.int .i64 0)).set 7 (.string no))
      have c9 := hide ((((((((((Chg.refl (· = w.heap.size) w3).set w.heap.size 0 (.bool true) rfl).set w.heap.size 1 (.int .i64 0) rfl).set w.heap.size 2 (.int .i64 0) rfl).set w.heap.size 3 (.int .i64 ((m : Int) - 1)) rfl).set w.heap.size 4 (.int .i64 0) rfl).set w.heap.size 5 (.int .i64 0) rfl).set w.heap.size 6 (.int .i64 0) rfl).set w.heap.size 7 (.string no) rfl))
      obtain ⟨w9, hw9⟩ : ∃ w9, ((((((((w3.setCell ⟨w.heap.size, 0, none⟩ (.bool true)).setCell ⟨w.heap.size, 1, none⟩ (.int .i64 0)).setCell ⟨w.heap.size, 2, none⟩ (.int .i64 0)).setCell ⟨w.heap.size, 3, none⟩ (.int .i64 ((m : Int) - 1))).setCell ⟨w.heap.size, 4, none⟩ (.int .i64 0)).setCell ⟨w.heap.size, 5, none⟩ (.int .i64 0)).setCell ⟨w.heap.size, 6, none⟩ (.int .i64 0)).setCell ⟨w.heap.size, 7, none⟩ (.string no)) = w9 := ⟨_, rfl⟩
      rw [hw9] at h9 c9
      have q0 : w9.cell? ⟨w.heap.size, 0, none⟩ = some (.bool true) := h9.at' 0
      have q1 : w9.cell? ⟨w.heap.size, 1, none⟩ = some (.int .i64 0) := h9.at' 1
      have q2 : w9.cell? ⟨w.heap.size, 2, none⟩ = some (.int .i64 0) := h9.at' 2
      have q3 : w9.cell? ⟨w.heap.size, 3, none⟩ = some (.int .i64 ((m : Int) - 1)) := h9.at' 3
      have q4 : w9.cell? ⟨w.heap.size, 4, none⟩ = some (.int .i64 0) := h9.at' 4
      have q5 : w9.cell? ⟨w.heap.size, 5, none⟩ = some (.int .i64 0) := h9.at' 5
      have q6 : w9.cell? ⟨w.heap.size, 6, none⟩ = some (.int .i64 0) := h9.at' 6
      have q7 : w9.cell? ⟨w.heap.size, 7, none⟩ = some (.string no) := h9.at' 7
      replace h9 := hide h9
      clear hb3
      go_wp2_with fail
      refine bodyPost_ret (by simp [results, Tryz.results7, go_sem, q0, q1, q2, q3, q4, q5, q6, q7]; try rfl) rfl ?_
      refine ⟨_, rfl, ?_, ?_⟩
      · rw [← htk.out]
        exact owns_keep R3.out (fun k hk => c9.out.block k (owns_lt R3.out k hk).2 (fun e => by have := (owns_lt R3.out k hk).1; omega))
      · have b1 : Below w.heap.size w (w.alloc (agO ⟨false, 0, 0, 0, 0, ⟨0, 0, no⟩⟩)) := step (Below.refl _ _) _
        have hz3 := K3.out.size
        simp only [World.size_alloc] at hz3
        exact ⟨c9.out.os.trans (K3.out.os.trans b1.os), c9.out.tape.trans (K3.out.tape.trans b1.tape), c9.out.output.trans (K3.out.output.trans b1.output), Nat.le_trans (by omega) c9.out.size, fun k hk => (c9.out.block k (by omega) (by omega)).trans ((K3.out.block k (by omega)).trans (b1.block k hk))⟩
set_option maxHeartbeats 4000000 in
set_option maxRecDepth 100000 in
theorem column_g (ns : List Int) (hm : ns.length = 300) (len : Nat) (hl : 300 < len) (a : Option Addr) (cap : Nat) (w : World) (h : IntsAt w a ns) (hc : len ≤ cap) (b0 o0 : Nat) (hab : a = some ⟨b0, o0, none⟩) :
    Calls Tryz.prog 7 #[.slice a len cap] w fun e w' => ∃ v, e = .returned (.tuple #[.slice a 300 cap, v, agV ⟨true, 0, 0, 299, 0, ⟨0, 0, no⟩⟩]) ∧ RowV w' (w.heap.size + 1) v (ns.map nmV) ∧ Below w.heap.size w w' := by
  have h3 := hide (h.keep (step (Below.refl w.heap.size w) (agO ⟨false, 0, 0, 0, 0, ⟨0, 0, no⟩⟩)))
  have HCe : CallIs 11 #[.int .i64 300] (agV ⟨true, 0, 0, 299, 0, ⟨0, 0, no⟩⟩) := cells_is 300 (by decide) (by decide)
  replace hm := hide hm
  clear h
  subst hab
  have hsl := fun w => slice300 b0 o0 len cap hl hc w
  have pl : (300 : Int) < (len : Int) := by omega
  go_enter Tryz.func7, Tryz.ntmps7
  go_wp2_with fail
  go_loopw [5, 6] (fun l i wr => ∃ n : Nat, n ≤ 300 ∧ i = .int .i64 (n : Int) ∧ Hid (RowV wr (w.heap.size + 1) l ((ns.take n).map nmV)) ∧ Hid (Below (w.heap.size + 1) (w.alloc (agO ⟨false, 0, 0, 0, 0, ⟨0, 0, no⟩⟩)) wr)) (fun _ i _ => 300 - (intOf i).toNat)
  case atStart => exact ⟨0, Nat.zero_le _, rfl, hide (RowV.nil _ _), hide (Below.refl _ _)⟩
  case round =>
    obtain ⟨n, hn, rfl, HR, HB⟩ := hrel
    have hz : Hid (w.heap.size + 1 ≤ wr.heap.size) := hide (by have := HB.out.size; simpa using this)
    obtain ⟨al, nl, cl, rfl, hnl⟩ := HR.out.shapeN
    replace hnl := hide hnl
    by_cases hlt : n < 300
    · have p0 : (n : Int) < (300 : Int) := by omega
      have hn' : n < ns.length := by have := hm.out; omega
      obtain ⟨b, o, hbo, ho⟩ : ∃ b o, some (⟨b0, o0, none⟩ : Addr) = some ⟨b, o, none⟩ ∧ ∀ (j : Nat) (x : Int), ns[j]? = some x → (w.alloc (agO ⟨false, 0, 0, 0, 0, ⟨0, 0, no⟩⟩)).cell? ⟨b, o + j, none⟩ = some (.int .i64 x) := by
        rcases h3.out with h | h
        · rw [h] at hn'; cases hn'
        · exact h
      obtain ⟨rfl, rfl⟩ : b0 = b ∧ o0 = o := by simpa using hbo
      have a0 : wr.cell? ⟨b0, o0 + n, none⟩ = some (.int .i64 ns[n]) := by
        have e := ho n _ (List.getElem?_eq_getElem hn')
        have hl := block_lt_of_cell e
        simp only [World.size_alloc] at hl
        rw [HB.out.cell (p := ⟨b0, o0 + n, none⟩) hl]; exact e
      have htk : Hid ((ns.take n).map nmV ++ [nmV ns[n]] = (ns.take (n + 1)).map nmV) := hide (by rw [List.take_succ_eq_append_getElem hn', List.map_append]; rfl)
      generalize ns[n] = x at *
      have HN := lnum_is x
      clear ho hn'
      go_wp2_with fail
      refine (HN.out _).mono ?_
      rintro e w2 ⟨rfl, hb2⟩
      have K2 := hide (HB.out.trans (hb2.mono hz.out))
      have R3 := hide ((HR.out.keep hb2).keep (step (Below.refl w2.heap.size w2) (vO 1 x no)))
      have hrg : Hid ((w2.alloc (vO 1 x no)).rangeAt w2.heap.size 0 (vaC (nmV x))) := hide (fun jj u hu => by
        have hb := Blk.new w2 #[.int .i64 1, .int .i64 x, .string no] 31
        rw [hb.at', Nat.zero_add]
        simpa using hu)
      have hac : Hid (((ns.take n).map nmV).length < 1000000) := hide (by rw [List.length_map, List.length_take]; omega)
      have hBB : Hid (w.heap.size + 1 ≤ (w2.alloc (vO 1 x no)).heap.size) := hide (Nat.le_trans hz.out (Nat.le_trans hb2.size (by simp)))
      have K3 := hide (K2.out.alloc (Nat.le_trans hz.out hb2.size) (vO 1 x no))
      clear hb2 a0
      go_wp2_with (refine wpList_appV rfl _ _ rfl rfl rfl R3.out (nmV x) hrg.out hac.out hBB.out ?_; intro v5 w5 g1 g2)
      rw [htk.out] at g1
      refine ⟨⟨n + 1, hlt, rfl, hide g1, hide ?_⟩, ?_⟩
      · exact ⟨g2.os.trans K3.out.os, g2.tape.trans K3.out.tape, g2.output.trans K3.out.output, Nat.le_trans K3.out.size g2.size, fun k hk => (g2.block k (Nat.lt_of_lt_of_le hk hBB.out) (fun e => by have := (owns_lt R3.out k e.symm).1; omega)).trans (K3.out.block k hk)⟩
      · have h1 : (intOf (.int .i64 ((n : Int) + 1))).toNat = n + 1 := rfl
        have h2 : (intOf (.int .i64 (n : Int))).toNat = n := rfl
        rw [h1, h2]
        omega
    · obtain rfl : 300 = n := by omega
      have htk : Hid (ns.take 300 = ns) := hide (by rw [← hm.out]; exact List.take_length)
      have hbx : Hid (Blk wr w.heap.size #[.bool false, .int .i64 0, .int .i64 0, .int .i64 0, .int .i64 0, .int .i64 0, .int .i64 0, .string no] 41) := hide ((HB.out.block w.heap.size (Nat.lt_succ_self _)).trans (Blk.new w _ _))
      go_wp2_with fail
      refine (HCe.out _).mono ?_
      rintro e w3 ⟨rfl, hb3⟩
      have R3 := hide (HR.out.keep hb3)
      have K3 := hide (HB.out.trans (hb3.mono hz.out))
      have bx := hide (hbx.out.keep hb3)
      have z0 : w3.cell? ⟨w.heap.size, 0, none⟩ = some (.bool false) := bx.out.at' 0
      have z1 : w3.cell? ⟨w.heap.size, 1, none⟩ = some (.int .i64 0) := bx.out.at' 1
      have z2 : w3.cell? ⟨w.heap.size, 2, none⟩ = some (.int .i64 0) := bx.out.at' 2
      have z3 : w3.cell? ⟨w.heap.size, 3, none⟩ = some (.int .i64 0) := bx.out.at' 3
      have z4 : w3.cell? ⟨w.heap.size, 4, none⟩ = some (.int .i64 0) := bx.out.at' 4
      have z5 : w3.cell? ⟨w.heap.size, 5, none⟩ = some (.int .i64 0) := bx.out.at' 5
      have z6 : w3.cell? ⟨w.heap.size, 6, none⟩ = some (.int .i64 0) := bx.out.at' 6
      have z7 : w3.cell? ⟨w.heap.size, 7, none⟩ = some (.string no) := bx.out.at' 7
      have zf := bx.out.fr
      have h9 := ((((((((bx.out.set 0 (.bool true)).set 1 (.int .i64 0)).set 2 (.int .i64 0)).set 3 (.int .i64 299)).set 4 (.int .i64 0)).set 5 (.int .i64 0)).set 6 (.int .i64 0)).set 7 (.string no))
      have c9 := hide ((((((((((Chg.refl (· = w.heap.size) w3).set w.heap.size 0 (.bool true) rfl).set w.heap.size 1 (.int .i64 0) rfl).set w.heap.size 2 (.int .i64 0) rfl).set w.heap.size 3 (.int .i64 299) rfl).set w.heap.size 4 (.int .i64 0) rfl).set w.heap.size 5 (.int .i64 0) rfl).set w.heap.size 6 (.int .i64 0) rfl).set w.heap.size 7 (.string no) rfl))
      obtain ⟨w9, hw9⟩ : ∃ w9, ((((((((w3.setCell ⟨w.heap.size, 0, none⟩ (.bool true)).setCell ⟨w.heap.size, 1, none⟩ (.int .i64 0)).setCell ⟨w.heap.size, 2, none⟩ (.int .i64 0)).setCell ⟨w.heap.size, 3, none⟩ (.int .i64 299)).setCell ⟨w.heap.size, 4, none⟩ (.int .i64 0)).setCell ⟨w.heap.size, 5, none⟩ (.int .i64 0)).setCell ⟨w.heap.size, 6, none⟩ (.int .i64 0)).setCell ⟨w.heap.size, 7, none⟩ (.string no)) = w9 := ⟨_, rfl⟩
      rw [hw9] at h9 c9
      have q0 : w9.cell? ⟨w.heap.size, 0, none⟩ = some (.bool true) := h9.at' 0
      have q1 : w9.cell? ⟨w.heap.size, 1, none⟩ = some (.int .i64 0) := h9.at' 1
      have q2 : w9.cell? ⟨w.heap.size, 2, none⟩ = some (.int .i64 0) := h9.at' 2
      have q3 : w9.cell? ⟨w.heap.size, 3, none⟩ = some (.int .i64 299) := h9.at' 3
      have q4 : w9.cell? ⟨w.heap.size, 4, none⟩ = some (.int .i64 0) := h9.at' 4
      have q5 : w9.cell? ⟨w.heap.size, 5, none⟩ = some (.int .i64 0) := h9.at' 5
      have q6 : w9.cell? ⟨w.heap.size, 6, none⟩ = some (.int .i64 0) := h9.at' 6
      have q7 : w9.cell? ⟨w.heap.size, 7, none⟩ = some (.string no) := h9.at' 7
      replace h9 := hide h9
      clear hb3
      go_wp2_with fail
      refine bodyPost_ret (by simp [results, Tryz.results7, go_sem, q0, q1, q2, q3, q4, q5, q6, q7]; try rfl) rfl ?_
      refine ⟨_, rfl, ?_, ?_⟩
      · rw [← htk.out]
        exact owns_keep R3.out (fun k hk => c9.out.block k (owns_lt R3.out k hk).2 (fun e => by have := (owns_lt R3.out k hk).1; omega))
      · have b1 : Below w.heap.size w (w.alloc (agO ⟨false, 0, 0, 0, 0, ⟨0, 0, no⟩⟩)) := step (Below.refl _ _) _
        have hz3 := K3.out.size
        simp only [World.size_alloc] at hz3
        exact ⟨c9.out.os.trans (K3.out.os.trans b1.os), c9.out.tape.trans (K3.out.tape.trans b1.tape), c9.out.output.trans (K3.out.output.trans b1.output), Nat.le_trans (by omega) c9.out.size, fun k hk => (c9.out.block k (by omega) (by omega)).trans ((K3.out.block k (by omega)).trans (b1.block k hk))⟩
end Go.Proofs.YtnpdkojhlgchlaaGreatDoor
