/- FoldFinds: MATCH ends at the first place whose number is the one that is looked for; COUNTIF tells how many there are; VLOOKUP wants the place beside the first. Proved of the Go text. -/
import Derived.Test.YtchphbclaapfhaaGreatDoorFndM15
namespace Go.Proofs.YtchphbclaapfhaaGreatDoor
open Go.RowKit Go.Sort
open T9 (Blk Chg)
set_option linter.unusedVariables false
set_option linter.unusedSimpArgs false

theorem flP_at : ∀ (L : List (Int × Int)) (j : Nat) (x : Int × Int), L[j]? = some x → (flP L)[j * 2]? = some (.int .i64 x.1) ∧ (flP L)[j * 2 + 1]? = some (.int .i64 x.2)
  | [], j, x, h => by simp at h
  | y :: L, 0, x, h => by obtain rfl : y = x := by simpa using h
                          exact ⟨rfl, rfl⟩
  | y :: L, j + 1, x, h => by
    have ih := flP_at L j x (by simpa using h)
    have e : flP (y :: L) = spL y ++ flP L := by simp [flP]
    rw [e, show (j + 1) * 2 = 2 + j * 2 by omega]
    refine ⟨?_, ?_⟩
    · rw [List.getElem?_append_right (by simp)]; simpa using ih.1
    · rw [List.getElem?_append_right (by simp; omega)]; simp only [List.length_cons, List.length_nil]; rw [show 2 + j * 2 + 1 - (0 + 1 + 1) = j * 2 + 1 by omega]; exact ih.2
theorem RowP.at {w : World} {B : Nat} {a : Option Addr} {n cap : Nat} {L : List (Int × Int)} (h : RowP w B (.slice a n cap) L) (hL : 0 < L.length) : ∃ g, a = some ⟨g, 0, none⟩ ∧ ∀ (j : Nat) (x : Int × Int), L[j]? = some x → w.cell? ⟨g, j * 2, none⟩ = some (.int .i64 x.1) ∧ w.cell? ⟨g, j * 2 + 1, none⟩ = some (.int .i64 x.2) := by
  rcases h.2 with ⟨hv, h2⟩ | ⟨g, cap', cur, hv, _, hr, _, _, _, ht⟩
  · omega
  · simp only [Value.slice.injEq] at hv
    obtain ⟨rfl, _, _⟩ := hv
    refine ⟨g, rfl, fun j x hx => ?_⟩
    obtain ⟨c0, c1⟩ := flP_at L j x hx
    have hcell : ∀ (o : Nat) (u : Value), (flP L)[o]? = some u → w.cell? ⟨g, o, none⟩ = some u := fun o u hu => by
      rw [cell_of_row w g o cur _ (0, 0) hr, ← Array.getElem?_toList]
      rw [← ht, List.getElem?_take] at hu
      split at hu
      · exact hu
      · cases hu
    exact ⟨hcell _ _ c0, hcell _ _ c1⟩
theorem RowP.low {w : World} {B B' : Nat} {v : Value} {L : List (Int × Int)} (h : RowP w B v L) (hb : B' ≤ B) : RowP w B' v L := by
  refine ⟨h.1, ?_⟩
  rcases h.2 with h2 | ⟨g, cap, cur, rfl, h1, h2⟩
  · exact .inl h2
  · exact .inr ⟨g, cap, cur, rfl, Nat.le_trans hb h1, h2⟩
theorem va_neq1 (i : Int) (w : World) : (binOp .neq 28 (vV 1 i no) (vV 1 i no)).run Tryz.prog w = .ok (.bool false) w := by go_simp
theorem va_eqA (k i : Int) (w : World) : (binOp .eql 28 (vV k i no) (vV k i no)).run Tryz.prog w = .ok (.bool true) w := by go_simp
theorem sp_eqA (p q : Int) (w : World) : (binOp .eql 39 (.agg #[.int .i64 p, .int .i64 q]) (.agg #[.int .i64 p, .int .i64 q])).run Tryz.prog w = .ok (.bool true) w := by go_simp
theorem fI_at (x : Int) : ∀ (l : List Int) (i : Nat) (h : i < l.length), l[i] = x → fI x l ≤ i
  | [], i, h, _ => by simp at h
  | b :: r, 0, h, e => by rw [fI, if_pos (by simpa using e)]; exact Nat.le_refl _
  | b :: r, i + 1, h, e => by
    rw [fI]
    split
    · exact Nat.zero_le _
    · have := fI_at x r i (by simpa using h) (by simpa using e); omega
theorem fI_ne (x : Int) : ∀ (l : List Int) (i : Nat) (h : i < l.length), l[i] ≠ x → fI x l ≠ i
  | [], i, h, _ => by simp at h
  | b :: r, 0, h, e => by rw [fI, if_neg (by simpa using e)]; omega
  | b :: r, i + 1, h, e => by
    rw [fI]
    split
    · omega
    · have := fI_ne x r i (by simpa using h) (by simpa using e); omega
/-- What the law has found up to a place. -/
def fst (x : Int) (ns : List Int) (j : Nat) : Int := if fI x ns < j then (fI x ns : Int) else -1
theorem fst_new (x : Int) (ns : List Int) (j : Nat) (h : j < ns.length) (e : ns[j] = x) (hF : fst x ns j < 0) : fst x ns (j + 1) = j := by
  have := fI_at x ns j h e
  unfold fst at *
  split at hF
  · omega
  · rw [if_pos (by omega)]; omega
theorem fst_old (x : Int) (ns : List Int) (j : Nat) (hF : ¬ fst x ns j < 0) : fst x ns (j + 1) = fst x ns j := by
  unfold fst at *
  split at hF
  · rw [if_pos (by omega), if_pos (by omega)]
  · omega
theorem fst_no (x : Int) (ns : List Int) (j : Nat) (h : j < ns.length) (e : ns[j] ≠ x) : fst x ns (j + 1) = fst x ns j := by
  have := fI_ne x ns j h e
  unfold fst
  split <;> split <;> omega
theorem fst_bd (x : Int) (ns : List Int) (j : Nat) : -1 ≤ fst x ns j ∧ fst x ns j ≤ ns.length := by
  have := fI_le x ns
  unfold fst
  split <;> omega
theorem cI_snoc (x : Int) (ns : List Int) (j : Nat) (h : j < ns.length) : cI x (ns.take (j + 1)) = cI x (ns.take j) + (if ns[j] = x then 1 else 0) := by
  rw [List.take_succ_eq_append_getElem h, cI_app]; simp [cI]
/-- What is left behind the statement that runs VLOOKUP. -/
def LkAt (L : List (Int × Int)) (l0 l1 : Int) (l2 : ByteArray) (wz wx : World) (Bv : Nat) (v : Value) : Prop := Blk wx Bv #[.int .i64 l0, .int .i64 l1, .string l2] 28 ∧ RowP wx wz.heap.size v L ∧ Below wz.heap.size wz wx
theorem lk_a {L : List (Int × Int)} {l0 l1 : Int} {l2 : ByteArray} {wz w7 : World} {v : Value} {N : Nat} (hr : RowP w7 N v L) (hN : wz.heap.size ≤ N) (hb : Below wz.heap.size wz w7) : LkAt L l0 l1 l2 wz (w7.alloc (.cells #[.int .i64 l0, .int .i64 l1, .string l2] 28)) w7.heap.size v := ⟨Blk.new _ _ _, (hr.low hN).keep (step (Below.refl _ _) _), step hb _⟩
theorem lk_b {L : List (Int × Int)} {l0 l1 : Int} {l2 : ByteArray} {wz w7 wx : World} {v : Value} {N Bv : Nat} (hr : RowP w7 N v L) (hN : wz.heap.size ≤ N) (hb : Below wz.heap.size wz w7) (hB : Blk wx Bv #[.int .i64 l0, .int .i64 l1, .string l2] 28) (hc : Chg (· = Bv) w7 wx) (h1 : wz.heap.size ≤ Bv) (h2 : Bv < N) : LkAt L l0 l1 l2 wz wx Bv v := ⟨hB, (hr.low hN).chg hc (fun k hk e => by have := (owns_lt hr k hk).1; omega), bel_chg hb h1 hc⟩
theorem below_set {wz w : World} {B i : Nat} {v : Value} (h : Below wz.heap.size wz w) (hB : wz.heap.size ≤ B) : Below wz.heap.size wz (w.setCell ⟨B, i, none⟩ v) := bel_chg h hB ((Chg.refl (· = B) w).set B i v rfl)
set_option maxHeartbeats 16000000 in
set_option maxRecDepth 100000 in
theorem ff_walk (ns : List Int) (x : Int) (hx1 : -9223372036854775808 ≤ x) (hx2 : x ≤ 9223372036854775807) (a : Option Addr) (cap len : Nat) (HC0 : ∀ w, IntsAt w a ns → Calls Tryz.prog 9 #[.slice a len cap] w fun e w' => ∃ v, e = .returned (.tuple #[.slice a ns.length cap, v, agV (agC (ns.length : Nat))]) ∧ RowV w' (w.heap.size + 1) v (ns.map nmV) ∧ Below w.heap.size w w') (h3 : ns.length ≤ 300) (hbd : ∀ y ∈ ns, -9223372036854775808 ≤ y ∧ y ≤ 9223372036854775807) (w : World) (h : IntsAt w a ns) : Calls Tryz.prog 3 #[.slice a len cap, .int .i64 x] w fun e w' => e = .returned (.bool true) ∧ Below w.heap.size w w' := by
  obtain ⟨m, hm⟩ : ∃ m, ns.length = m := ⟨_, rfl⟩
  have R70 := hide (fun (h1 : 1 ≤ ns.length) => run_match x hx1 hx2 ns h1 h3 hbd)
  have R74 := hide (fun (h1 : 1 ≤ ns.length) => run_countIf x hx1 hx2 ns h1 h3 hbd)
  have R71 := hide (fun (h1 : 1 ≤ ns.length) => run_look x hx1 hx2 ns h1 h3 hbd)
  rw [hm] at h3 HC0 R70 R74 R71
  have HC := hide HC0
  replace h := hide h
  replace hbd := hide hbd
  clear HC0 hx1 hx2
  go_enter Tryz.func3, Tryz.ntmps3
  go_wp2_with fail
  refine (begun15.out _).mono ?_
  rintro e w1 ⟨rfl, hb1⟩
  have K1 := hide (next (Below.refl w.heap.size w) hb1)
  have h1 := hide (h.out.keep hb1)
  clear hb1
  go_wp2_with fail
  refine (HC.out _ h1.out).mono ?_
  rintro e w2 ⟨v, rfl, hv, hb2⟩
  obtain ⟨av, nv, cv, rfl, hnv⟩ := hv.shapeN
  rw [List.length_map, hm] at hnv
  have hnv' := hnv.symm
  subst hnv'
  clear hnv
  have K2 := hide (step (next K1.out hb2) (agO (agC (m : Nat))))
  have h2 := hide ((h1.out.keep hb2).keep (step (Below.refl _ _) (agO (agC (m : Nat)))))
  have hvv := hide (hv.vals.keep (step (Below.refl _ _) (agO (agC (m : Nat)))))
  have AB := hide (Blk.new w2 #[.bool true, .int .i64 0, .int .i64 0, .int .i64 ((m : Int) - 1), .int .i64 0, .int .i64 0, .int .i64 0, .string no] 30)
  replace hm := hide hm
  clear hb2 hv h1 h
  by_cases h0 : m = 0
  · subst h0
    go_wp2_with fail
    go_ret
    exact ⟨rfl, K2.out⟩
  have p0 : ((m : Int) == 0) = false := by simp; omega
  have R70 := hide (R70.out (by omega))
  have R74 := hide (R74.out (by omega))
  have R71 := hide (R71.out (by omega))
  clear h0
  obtain ⟨XA, hXA⟩ : ∃ XA, w2.heap.size = XA := ⟨_, rfl⟩
  go_upto_region 6 with fail
  rw [hXA] at AB
  try rw [hXA]
  clear hXA
  obtain ⟨wf, hwf⟩ : ∃ wf, w2.alloc (.cells #[.bool true, .int .i64 0, .int .i64 0, .int .i64 ((m : Int) - 1), .int .i64 0, .int .i64 0, .int .i64 0, .string no] 30) = wf := ⟨_, rfl⟩
  simp only [agO] at K2 h2 hvv
  rw [hwf] at K2 h2 hvv AB ⊢
  clear hwf
  go_wp2_with fail
  go_loopw [7, 8, 9] (fun f mn i wr => wf = wr ∧ ∃ (j : Nat) (F M : Int), j ≤ m ∧ f = .int .i64 F ∧ mn = .int .i64 M ∧ i = .int .i64 (j : Int) ∧ Hid (F = fst x ns j) ∧ Hid (M = (cI x (ns.take j) : Nat))) (fun _ _ i _ => m - (intOf i).toNat)
  case atStart => exact ⟨rfl, 0, -1, 0, Nat.zero_le _, rfl, rfl, rfl, hide rfl, hide rfl⟩
  case round =>
    obtain ⟨rfl, j, F, M, hj, rfl, rfl, rfl, hF, hM⟩ := hrel
    have bM0 : 0 ≤ M := by rw [hM.out]; omega
    have bM1 : M ≤ 300 := by rw [hM.out]; have := cI_le x (ns.take j); rw [List.length_take] at this; omega
    by_cases hlt : j < m
    · have q0 : (j : Int) < (m : Int) := by omega
      have hj' : j < ns.length := by have := hm.out; omega
      obtain ⟨b, o, rfl, ho⟩ : ∃ b o, a = some ⟨b, o, none⟩ ∧ ∀ (j : Nat) (y : Int), ns[j]? = some y → wf.cell? ⟨b, o + j, none⟩ = some (.int .i64 y) := by
        rcases h2.out with h | h
        · rw [h] at hj'; cases hj'
        · exact h
      have a0 := ho j _ (List.getElem?_eq_getElem hj')
      have hcs := hide (cI_snoc x ns j hj')
      have hfn := hide (fst_new x ns j hj')
      have hfo := hide (fst_no x ns j hj')
      have hm1 : Hid ((intOf (.int .i64 ((j : Int) + 1))).toNat = j + 1) := hide rfl
      have hm2 : Hid ((intOf (.int .i64 (j : Int))).toNat = j) := hide rfl
      generalize ns[j] = y at *
      clear ho hj'
      by_cases hy : y = x
      · subst hy
        have q1 : (y == y) = true := by simp
        by_cases hF0 : F < 0
        · have e1 : Hid ((j : Int) = fst y ns (j + 1)) := hide ((hfn.out rfl (by rw [← hF.out]; exact hF0)).symm)
          go_wp2_with fail
          refine ⟨⟨trivial, j + 1, _, _, hlt, rfl, rfl, rfl, e1, hide (by rw [hcs.out, hM.out]; simp)⟩, ?_⟩
          rw [hm1.out, hm2.out]; omega
        · have e1 : Hid (F = fst y ns (j + 1)) := hide (by rw [fst_old y ns j (by rw [← hF.out]; exact hF0)]; exact hF.out)
          go_wp2_with fail
          refine ⟨⟨trivial, j + 1, _, _, hlt, rfl, rfl, rfl, e1, hide (by rw [hcs.out, hM.out]; simp)⟩, ?_⟩
          rw [hm1.out, hm2.out]; omega
      · have q1 : (y == x) = false := by simp [hy]
        have e1 : Hid (F = fst x ns (j + 1)) := hide (by rw [hfo.out hy]; exact hF.out)
        have e2 : Hid (M = (cI x (ns.take (j + 1)) : Nat)) := hide (by rw [hcs.out, hM.out, if_neg hy]; simp)
        clear hy
        go_wp2_with fail
        refine ⟨⟨trivial, j + 1, _, _, hlt, rfl, rfl, rfl, e1, e2⟩, ?_⟩
        rw [hm1.out, hm2.out]; omega
    · obtain rfl : m = j := by omega
      have hM2 : Hid (((cI x ns : Nat) : Int) = M) := hide (by rw [hM.out, List.take_of_length_le (by have := hm.out; omega)])
      rw [hM2.out] at R74
      clear hM hM2 hlt
      have HNx := lnum_is x
      go_wp2_with fail
      refine (HNx.out _).mono ?_
      rintro e w4 ⟨rfl, hb4⟩
      have K4 := hide (next K2.out hb4)
      have AB4 := AB.out.keep hb4
      have AB5 := hide (AB4.alloc (.cells #[.bool false, .int .i64 0, .int .i64 0, .int .i64 0, .int .i64 0, .int .i64 1, .int .i64 x, .string no] 30))
      have KY5 := hide (Blk.new w4 #[.bool false, .int .i64 0, .int .i64 0, .int .i64 0, .int .i64 0, .int .i64 1, .int .i64 x, .string no] 30)
      have a0 : (w4.alloc (.cells #[.bool false, .int .i64 0, .int .i64 0, .int .i64 0, .int .i64 0, .int .i64 1, .int .i64 x, .string no] 30)).cell? ⟨XA, 0, none⟩ = some (.bool true) := AB5.out.at' 0
      have a1 : (w4.alloc (.cells #[.bool false, .int .i64 0, .int .i64 0, .int .i64 0, .int .i64 0, .int .i64 1, .int .i64 x, .string no] 30)).cell? ⟨XA, 1, none⟩ = some (.int .i64 0) := AB5.out.at' 1
      have a2 : (w4.alloc (.cells #[.bool false, .int .i64 0, .int .i64 0, .int .i64 0, .int .i64 0, .int .i64 1, .int .i64 x, .string no] 30)).cell? ⟨XA, 2, none⟩ = some (.int .i64 0) := AB5.out.at' 2
      have a3 : (w4.alloc (.cells #[.bool false, .int .i64 0, .int .i64 0, .int .i64 0, .int .i64 0, .int .i64 1, .int .i64 x, .string no] 30)).cell? ⟨XA, 3, none⟩ = some (.int .i64 ((m : Int) - 1)) := AB5.out.at' 3
      have a4 : (w4.alloc (.cells #[.bool false, .int .i64 0, .int .i64 0, .int .i64 0, .int .i64 0, .int .i64 1, .int .i64 x, .string no] 30)).cell? ⟨XA, 4, none⟩ = some (.int .i64 0) := AB5.out.at' 4
      have a5 : (w4.alloc (.cells #[.bool false, .int .i64 0, .int .i64 0, .int .i64 0, .int .i64 0, .int .i64 1, .int .i64 x, .string no] 30)).cell? ⟨XA, 5, none⟩ = some (.int .i64 0) := AB5.out.at' 5
      have a6 : (w4.alloc (.cells #[.bool false, .int .i64 0, .int .i64 0, .int .i64 0, .int .i64 0, .int .i64 1, .int .i64 x, .string no] 30)).cell? ⟨XA, 6, none⟩ = some (.int .i64 0) := AB5.out.at' 6
      have a7 : (w4.alloc (.cells #[.bool false, .int .i64 0, .int .i64 0, .int .i64 0, .int .i64 0, .int .i64 1, .int .i64 x, .string no] 30)).cell? ⟨XA, 7, none⟩ = some (.string no) := AB5.out.at' 7
      have hv5 := hide (((hvv.out.keep hb4).keep (step (Below.refl w4.heap.size w4) (.cells #[.bool false, .int .i64 0, .int .i64 0, .int .i64 0, .int .i64 0, .int .i64 1, .int .i64 x, .string no] 30))).keep (step (Below.refl _ _) (.cells #[.bool false, .int .i64 0, .int .i64 0, .int .i64 0, .int .i64 0, .int .i64 1, .int .i64 x, .string no, .bool true, .int .i64 0, .int .i64 0, .int .i64 ((m : Int) - 1), .int .i64 0, .int .i64 0, .int .i64 0, .string no] 30)))
      have C70 := R70.out ((w4.alloc (.cells #[.bool false, .int .i64 0, .int .i64 0, .int .i64 0, .int .i64 0, .int .i64 1, .int .i64 x, .string no] 30)).alloc (.cells #[.bool false, .int .i64 0, .int .i64 0, .int .i64 0, .int .i64 0, .int .i64 1, .int .i64 x, .string no, .bool true, .int .i64 0, .int .i64 0, .int .i64 ((m : Int) - 1), .int .i64 0, .int .i64 0, .int .i64 0, .string no] 30)) (w4.heap.size + 1) (argsB2 (x := agN x) (y := agC (m : Nat)) (T9.Blk.new1 w4 (.cells #[.bool false, .int .i64 0, .int .i64 0, .int .i64 0, .int .i64 0, .int .i64 1, .int .i64 x, .string no] 30) _ _)) av cv hv5.out
      obtain ⟨⟨k0, k1, k2⟩, hma⟩ : ∃ v, maV x ns = v := ⟨_, rfl⟩
      obtain ⟨nM, hnM⟩ : ∃ n, maN x ns = n := ⟨_, rfl⟩
      rw [hma, hnM] at C70
      replace C70 := hide C70
      replace hma := hide hma
      replace hnM := hide hnM
      have K5 := hide (step (step K4.out (.cells #[.bool false, .int .i64 0, .int .i64 0, .int .i64 0, .int .i64 0, .int .i64 1, .int .i64 x, .string no] 30)) (.cells #[.bool false, .int .i64 0, .int .i64 0, .int .i64 0, .int .i64 0, .int .i64 1, .int .i64 x, .string no, .bool true, .int .i64 0, .int .i64 0, .int .i64 ((m : Int) - 1), .int .i64 0, .int .i64 0, .int .i64 0, .string no] 30))
      clear hb4 AB4
      go_wp2_with fail
      refine C70.out.mono ?_
      rintro e w5 ⟨a5, c5, rfl, hb5⟩
      have AB6 := hide (((AB5.out.alloc (.cells #[.bool false, .int .i64 0, .int .i64 0, .int .i64 0, .int .i64 0, .int .i64 1, .int .i64 x, .string no, .bool true, .int .i64 0, .int .i64 0, .int .i64 ((m : Int) - 1), .int .i64 0, .int .i64 0, .int .i64 0, .string no] 30)).keep hb5).alloc (vO k0 k1 k2))
      have KY6 := hide (((KY5.out.alloc (.cells #[.bool false, .int .i64 0, .int .i64 0, .int .i64 0, .int .i64 0, .int .i64 1, .int .i64 x, .string no, .bool true, .int .i64 0, .int .i64 0, .int .i64 ((m : Int) - 1), .int .i64 0, .int .i64 0, .int .i64 0, .string no] 30)).keep hb5).alloc (vO k0 k1 k2))
      have MB6 := hide (Blk.new w5 #[.int .i64 k0, .int .i64 k1, .string k2] 28)
      have K6 := hide (step (next K5.out hb5) (vO k0 k1 k2))
      have hv6 := hide ((hv5.out.keep hb5).keep (step (Below.refl w5.heap.size w5) (vO k0 k1 k2)))
      have b0 : (w5.alloc (vO k0 k1 k2)).cell? ⟨XA, 0, none⟩ = some (.bool true) := AB6.out.at' 0
      have b1 : (w5.alloc (vO k0 k1 k2)).cell? ⟨XA, 1, none⟩ = some (.int .i64 0) := AB6.out.at' 1
      have b2 : (w5.alloc (vO k0 k1 k2)).cell? ⟨XA, 2, none⟩ = some (.int .i64 0) := AB6.out.at' 2
      have b3 : (w5.alloc (vO k0 k1 k2)).cell? ⟨XA, 3, none⟩ = some (.int .i64 ((m : Int) - 1)) := AB6.out.at' 3
      have b4 : (w5.alloc (vO k0 k1 k2)).cell? ⟨XA, 4, none⟩ = some (.int .i64 0) := AB6.out.at' 4
      have b5 : (w5.alloc (vO k0 k1 k2)).cell? ⟨XA, 5, none⟩ = some (.int .i64 0) := AB6.out.at' 5
      have b6 : (w5.alloc (vO k0 k1 k2)).cell? ⟨XA, 6, none⟩ = some (.int .i64 0) := AB6.out.at' 6
      have b7 : (w5.alloc (vO k0 k1 k2)).cell? ⟨XA, 7, none⟩ = some (.string no) := AB6.out.at' 7
      have y0 : (w5.alloc (vO k0 k1 k2)).cell? ⟨w4.heap.size, 0, none⟩ = some (.bool false) := KY6.out.at' 0
      have y1 : (w5.alloc (vO k0 k1 k2)).cell? ⟨w4.heap.size, 1, none⟩ = some (.int .i64 0) := KY6.out.at' 1
      have y2 : (w5.alloc (vO k0 k1 k2)).cell? ⟨w4.heap.size, 2, none⟩ = some (.int .i64 0) := KY6.out.at' 2
      have y3 : (w5.alloc (vO k0 k1 k2)).cell? ⟨w4.heap.size, 3, none⟩ = some (.int .i64 0) := KY6.out.at' 3
      have y4 : (w5.alloc (vO k0 k1 k2)).cell? ⟨w4.heap.size, 4, none⟩ = some (.int .i64 0) := KY6.out.at' 4
      have y5 : (w5.alloc (vO k0 k1 k2)).cell? ⟨w4.heap.size, 5, none⟩ = some (.int .i64 1) := KY6.out.at' 5
      have y6 : (w5.alloc (vO k0 k1 k2)).cell? ⟨w4.heap.size, 6, none⟩ = some (.int .i64 x) := KY6.out.at' 6
      have y7 : (w5.alloc (vO k0 k1 k2)).cell? ⟨w4.heap.size, 7, none⟩ = some (.string no) := KY6.out.at' 7
      have hv7 := hide (hv6.out.keep (step (Below.refl _ _) (.cells #[.bool true, .int .i64 0, .int .i64 0, .int .i64 ((m : Int) - 1), .int .i64 0, .int .i64 0, .int .i64 0, .string no, .bool false, .int .i64 0, .int .i64 0, .int .i64 0, .int .i64 0, .int .i64 1, .int .i64 x, .string no] 30)))
      have C74 := R74.out ((w5.alloc (vO k0 k1 k2)).alloc (.cells #[.bool true, .int .i64 0, .int .i64 0, .int .i64 ((m : Int) - 1), .int .i64 0, .int .i64 0, .int .i64 0, .string no, .bool false, .int .i64 0, .int .i64 0, .int .i64 0, .int .i64 0, .int .i64 1, .int .i64 x, .string no] 30)) (w5.heap.size + 1) (argsB2 (x := agC (m : Nat)) (y := agN x) (T9.Blk.new1 w5 (vO k0 k1 k2) _ _)) av cv hv7.out
      replace C74 := hide C74
      have K7 := hide (step K6.out (.cells #[.bool true, .int .i64 0, .int .i64 0, .int .i64 ((m : Int) - 1), .int .i64 0, .int .i64 0, .int .i64 0, .string no, .bool false, .int .i64 0, .int .i64 0, .int .i64 0, .int .i64 0, .int .i64 1, .int .i64 x, .string no] 30))
      clear hb5
      go_wp2_with fail
      refine C74.out.mono ?_
      rintro e w6 ⟨a6, c6, rfl, hb6⟩
      have AB8 := hide (((AB6.out.alloc (.cells #[.bool true, .int .i64 0, .int .i64 0, .int .i64 ((m : Int) - 1), .int .i64 0, .int .i64 0, .int .i64 0, .string no, .bool false, .int .i64 0, .int .i64 0, .int .i64 0, .int .i64 0, .int .i64 1, .int .i64 x, .string no] 30)).keep hb6).alloc (vO 1 M no))
      have KY8 := hide (((KY6.out.alloc (.cells #[.bool true, .int .i64 0, .int .i64 0, .int .i64 ((m : Int) - 1), .int .i64 0, .int .i64 0, .int .i64 0, .string no, .bool false, .int .i64 0, .int .i64 0, .int .i64 0, .int .i64 0, .int .i64 1, .int .i64 x, .string no] 30)).keep hb6).alloc (vO 1 M no))
      have MB8 := hide (((MB6.out.alloc (.cells #[.bool true, .int .i64 0, .int .i64 0, .int .i64 ((m : Int) - 1), .int .i64 0, .int .i64 0, .int .i64 0, .string no, .bool false, .int .i64 0, .int .i64 0, .int .i64 0, .int .i64 0, .int .i64 1, .int .i64 x, .string no] 30)).keep hb6).alloc (vO 1 M no))
      have CB8 := hide (Blk.new w6 #[.int .i64 1, .int .i64 M, .string no] 28)
      have K8 := hide (step (step (next K7.out hb6) (vO 1 M no)) (.cells #[.bool true, .int .i64 0, .int .i64 0, .int .i64 ((m : Int) - 1), .int .i64 2, .int .i64 0, .int .i64 0, .string no] 30))
      have hv8 := hide (((hv7.out.keep hb6).keep (step (Below.refl w6.heap.size w6) (vO 1 M no))).keep (step (Below.refl _ _) (.cells #[.bool true, .int .i64 0, .int .i64 0, .int .i64 ((m : Int) - 1), .int .i64 2, .int .i64 0, .int .i64 0, .string no] 30)))
      have KY9 := hide (KY8.out.alloc (.cells #[.bool true, .int .i64 0, .int .i64 0, .int .i64 ((m : Int) - 1), .int .i64 2, .int .i64 0, .int .i64 0, .string no] 30))
      have MB9 := hide (MB8.out.alloc (.cells #[.bool true, .int .i64 0, .int .i64 0, .int .i64 ((m : Int) - 1), .int .i64 2, .int .i64 0, .int .i64 0, .string no] 30))
      have CB9 := hide (CB8.out.alloc (.cells #[.bool true, .int .i64 0, .int .i64 0, .int .i64 ((m : Int) - 1), .int .i64 2, .int .i64 0, .int .i64 0, .string no] 30))
      have WB9 := hide (T9.Blk.new1 w6 (vO 1 M no) #[.bool true, .int .i64 0, .int .i64 0, .int .i64 ((m : Int) - 1), .int .i64 2, .int .i64 0, .int .i64 0, .string no] 30)
      clear b0 b1 b2 b3 b4 b5 b6 b7 y0 y1 y2 y3 y4 y5 y6 y7 hb6
      have b0 : (w6.alloc (vO 1 M no)).cell? ⟨XA, 0, none⟩ = some (.bool true) := AB8.out.at' 0
      have b1 : (w6.alloc (vO 1 M no)).cell? ⟨XA, 1, none⟩ = some (.int .i64 0) := AB8.out.at' 1
      have b2 : (w6.alloc (vO 1 M no)).cell? ⟨XA, 2, none⟩ = some (.int .i64 0) := AB8.out.at' 2
      have b3 : (w6.alloc (vO 1 M no)).cell? ⟨XA, 3, none⟩ = some (.int .i64 ((m : Int) - 1)) := AB8.out.at' 3
      have b4 : (w6.alloc (vO 1 M no)).cell? ⟨XA, 4, none⟩ = some (.int .i64 0) := AB8.out.at' 4
      have b5 : (w6.alloc (vO 1 M no)).cell? ⟨XA, 5, none⟩ = some (.int .i64 0) := AB8.out.at' 5
      have b6 : (w6.alloc (vO 1 M no)).cell? ⟨XA, 6, none⟩ = some (.int .i64 0) := AB8.out.at' 6
      have b7 : (w6.alloc (vO 1 M no)).cell? ⟨XA, 7, none⟩ = some (.string no) := AB8.out.at' 7
      go_upto_region 19 with fail
      obtain ⟨wz, hwz⟩ : ∃ wz, (w6.alloc (.cells #[.int .i64 1, .int .i64 M, .string no] 28)).alloc (.cells #[.bool true, .int .i64 0, .int .i64 0, .int .i64 ((m : Int) - 1), .int .i64 2, .int .i64 0, .int .i64 0, .string no] 30) = wz := ⟨_, rfl⟩
      simp only [vO] at K8 hv8 KY9 MB9 CB9 WB9
      rw [hwz] at K8 hv8 KY9 MB9 CB9 WB9 ⊢
      clear hwz b0 b1 b2 b3 b4 b5 b6 b7 AB8 KY8 MB8 CB8 AB6 KY6 MB6 AB5 KY5
      obtain ⟨XK, hXK⟩ : ∃ XK, w4.heap.size = XK := ⟨_, rfl⟩
      obtain ⟨XM, hXM⟩ : ∃ XM, w5.heap.size = XM := ⟨_, rfl⟩
      obtain ⟨XC, hXC⟩ : ∃ XC, w6.heap.size = XC := ⟨_, rfl⟩
      rw [hXK] at KY9
      rw [hXM] at MB9
      rw [hXC] at CB9 WB9
      rw [hXK, hXM, hXC]
      clear hXK hXM hXC
      obtain ⟨⟨l0, l1, l2⟩, hlk⟩ : ∃ v, lkV x ns = v := ⟨_, rfl⟩
      obtain ⟨nL, hnL⟩ : ∃ n, lkN x ns = n := ⟨_, rfl⟩
      obtain ⟨LL, hLL⟩ : ∃ L, lkL x ns 0 (fI x ns) (decide (fI x ns < m)) = L := ⟨_, rfl⟩
      rw [hlk, hnL, hLL] at R71
      replace hlk := hide hlk
      replace hnL := hide hnL
      replace hLL := hide hLL
      have g0 := hide (KY9.out)
      have g1 := hide (WB9.out)
      have s0 : wz.cell? ⟨XK, 0, none⟩ = some (.bool false) := KY9.out.at' 0
      have s1 : wz.cell? ⟨XK, 1, none⟩ = some (.int .i64 0) := KY9.out.at' 1
      have s2 : wz.cell? ⟨XK, 2, none⟩ = some (.int .i64 0) := KY9.out.at' 2
      have s3 : wz.cell? ⟨XK, 3, none⟩ = some (.int .i64 0) := KY9.out.at' 3
      have s4 : wz.cell? ⟨XK, 4, none⟩ = some (.int .i64 0) := KY9.out.at' 4
      have s5 : wz.cell? ⟨XK, 5, none⟩ = some (.int .i64 1) := KY9.out.at' 5
      have s6 : wz.cell? ⟨XK, 6, none⟩ = some (.int .i64 x) := KY9.out.at' 6
      have s7 : wz.cell? ⟨XK, 7, none⟩ = some (.string no) := KY9.out.at' 7
      have s8 : wz.cell? ⟨(XC + 1), 0, none⟩ = some (.bool true) := WB9.out.at' 0
      have s9 : wz.cell? ⟨(XC + 1), 1, none⟩ = some (.int .i64 0) := WB9.out.at' 1
      have s10 : wz.cell? ⟨(XC + 1), 2, none⟩ = some (.int .i64 0) := WB9.out.at' 2
      have s11 : wz.cell? ⟨(XC + 1), 3, none⟩ = some (.int .i64 ((m : Int) - 1)) := WB9.out.at' 3
      have s12 : wz.cell? ⟨(XC + 1), 4, none⟩ = some (.int .i64 2) := WB9.out.at' 4
      have s13 : wz.cell? ⟨(XC + 1), 5, none⟩ = some (.int .i64 0) := WB9.out.at' 5
      have s14 : wz.cell? ⟨(XC + 1), 6, none⟩ = some (.int .i64 0) := WB9.out.at' 6
      have s15 : wz.cell? ⟨(XC + 1), 7, none⟩ = some (.string no) := WB9.out.at' 7
      have keyS : Hid (∀ w', Below wz.heap.size wz w' → (w'.cell? ⟨XK, 0, none⟩ = some (.bool false) ∧ w'.cell? ⟨XK, 1, none⟩ = some (.int .i64 0) ∧ w'.cell? ⟨XK, 2, none⟩ = some (.int .i64 0) ∧ w'.cell? ⟨XK, 3, none⟩ = some (.int .i64 0) ∧ w'.cell? ⟨XK, 4, none⟩ = some (.int .i64 0) ∧ w'.cell? ⟨XK, 5, none⟩ = some (.int .i64 1) ∧ w'.cell? ⟨XK, 6, none⟩ = some (.int .i64 x) ∧ w'.cell? ⟨XK, 7, none⟩ = some (.string no) ∧ w'.cell? ⟨(XC + 1), 0, none⟩ = some (.bool true) ∧ w'.cell? ⟨(XC + 1), 1, none⟩ = some (.int .i64 0) ∧ w'.cell? ⟨(XC + 1), 2, none⟩ = some (.int .i64 0) ∧ w'.cell? ⟨(XC + 1), 3, none⟩ = some (.int .i64 ((m : Int) - 1)) ∧ w'.cell? ⟨(XC + 1), 4, none⟩ = some (.int .i64 2) ∧ w'.cell? ⟨(XC + 1), 5, none⟩ = some (.int .i64 0) ∧ w'.cell? ⟨(XC + 1), 6, none⟩ = some (.int .i64 0) ∧ w'.cell? ⟨(XC + 1), 7, none⟩ = some (.string no))) := hide (fun w' hb => ⟨keep1 hb s0, keep1 hb s1, keep1 hb s2, keep1 hb s3, keep1 hb s4, keep1 hb s5, keep1 hb s6, keep1 hb s7, keep1 hb s8, keep1 hb s9, keep1 hb s10, keep1 hb s11, keep1 hb s12, keep1 hb s13, keep1 hb s14, keep1 hb s15⟩)
      have HN3 := lnum_is 3
      go_cut [18, 19, 20] from 75 to 85 (fun c18 c19 c20 wx => ∃ (Bv : Nat) (ax : Option Addr) (cx : Nat), c18 = .pointer (some ⟨Bv, 0, none⟩) ∧ c19 = .slice ax nL cx ∧ c20 = .bool true ∧ Hid (LkAt LL l0 l1 l2 wz wx Bv (.slice ax nL cx)))
      case first =>
        go_region_held (fun w' => w'.cell? ⟨XK, 0, none⟩ = some (.bool false) ∧ w'.cell? ⟨XK, 1, none⟩ = some (.int .i64 0) ∧ w'.cell? ⟨XK, 2, none⟩ = some (.int .i64 0) ∧ w'.cell? ⟨XK, 3, none⟩ = some (.int .i64 0) ∧ w'.cell? ⟨XK, 4, none⟩ = some (.int .i64 0) ∧ w'.cell? ⟨XK, 5, none⟩ = some (.int .i64 1) ∧ w'.cell? ⟨XK, 6, none⟩ = some (.int .i64 x) ∧ w'.cell? ⟨XK, 7, none⟩ = some (.string no) ∧ w'.cell? ⟨(XC + 1), 0, none⟩ = some (.bool true) ∧ w'.cell? ⟨(XC + 1), 1, none⟩ = some (.int .i64 0) ∧ w'.cell? ⟨(XC + 1), 2, none⟩ = some (.int .i64 0) ∧ w'.cell? ⟨(XC + 1), 3, none⟩ = some (.int .i64 ((m : Int) - 1)) ∧ w'.cell? ⟨(XC + 1), 4, none⟩ = some (.int .i64 2) ∧ w'.cell? ⟨(XC + 1), 5, none⟩ = some (.int .i64 0) ∧ w'.cell? ⟨(XC + 1), 6, none⟩ = some (.int .i64 0) ∧ w'.cell? ⟨(XC + 1), 7, none⟩ = some (.string no)) (first | (have hq := KR; refine keyS.out _ ?_; first | (with_reducible exact KR.out) | (with_reducible exact step KR.out _) | ((repeat (refine below_set ?_ (by first | exact Nat.le_refl _ | exact KN.out.size | exact Nat.le_succ_of_le KN.out.size | exact KR.out.size))); (with_reducible exact KR.out))) | (have hq := KN; refine keyS.out _ ?_; first | (with_reducible exact KN.out) | (with_reducible exact step KN.out _) | (with_reducible exact step (step KN.out _) _)) | go_keep) (first
          | (have hq := KN; (with_reducible refine (R71.out _ _ ?_ av cv ?_).mono ?_); (· exact argsB3 (x := agN x) (y := agW m) (z := agN 3) (by first | (with_reducible exact T9.Blk.new1 _ _ _ _) | (with_reducible exact (Blk.new _ _ _).alloc _) | (with_reducible exact Blk.new _ _ _))); (· exact hv8.out.keep (by first | (with_reducible exact step (step KN.out _) _) | (with_reducible exact step KN.out _))); rintro e w8 ⟨a8, c8, rfl, r8, hb8⟩; have KR : Hid (Below wz.heap.size wz w8) := hide (next (by first | (with_reducible exact step (step KN.out _) _) | (with_reducible exact step KN.out _)) hb8); have R8 := hide r8; (try (have Z2 : Hid (Blk w8 wz.heap.size #[.int .i64 0, .int .i64 0, .string no] 28) := hide (T9.Blk.keep (Z1.out.alloc _) hb8); have z0 : w8.cell? ⟨wz.heap.size, 0, none⟩ = some (.int .i64 0) := Z2.out.at' 0; have z1 : w8.cell? ⟨wz.heap.size, 1, none⟩ = some (.int .i64 0) := Z2.out.at' 1; have z2 : w8.cell? ⟨wz.heap.size, 2, none⟩ = some (.string no) := Z2.out.at' 2; have zf := Z2.out.fr)); (try (have Y2 : Hid (Blk w8 w7.heap.size #[.int .i64 0, .int .i64 0, .string no] 28) := hide (T9.Blk.keep ((Blk.new w7 #[.int .i64 0, .int .i64 0, .string no] 28).alloc _) hb8); have z0 : w8.cell? ⟨w7.heap.size, 0, none⟩ = some (.int .i64 0) := Y2.out.at' 0; have z1 : w8.cell? ⟨w7.heap.size, 1, none⟩ = some (.int .i64 0) := Y2.out.at' 1; have z2 : w8.cell? ⟨w7.heap.size, 2, none⟩ = some (.string no) := Y2.out.at' 2; have zf := Y2.out.fr)); (try (have V2 : Hid (Blk w8 (w7.heap.size + 1) #[.int .i64 0, .int .i64 0, .string no] 28) := hide (T9.Blk.keep (T9.Blk.new1 w7 _ #[.int .i64 0, .int .i64 0, .string no] 28) hb8); have z0 : w8.cell? ⟨(w7.heap.size + 1), 0, none⟩ = some (.int .i64 0) := V2.out.at' 0; have z1 : w8.cell? ⟨(w7.heap.size + 1), 1, none⟩ = some (.int .i64 0) := V2.out.at' 1; have z2 : w8.cell? ⟨(w7.heap.size + 1), 2, none⟩ = some (.string no) := V2.out.at' 2; have zf := V2.out.fr)); clear r8 hb8)
          | ((with_reducible refine (HN3.out _).mono ?_); rintro e w7 ⟨rfl, hb7⟩; have KN : Hid (Below wz.heap.size wz w7) := hide (next (by first | (with_reducible exact (Below.refl _ _).drew) | (with_reducible exact (step (Below.refl _ _) _).drew)) hb7); (try (have Z1 : Hid (Blk w7 wz.heap.size #[.int .i64 0, .int .i64 0, .string no] 28) := hide (T9.Blk.keep (drewB (Blk.new wz #[.int .i64 0, .int .i64 0, .string no] 28)) hb7))); clear hb7))
        all_goals (go_wp2_with fail)
        all_goals go_meet
        all_goals (first
          | (have hq9 := V2; exact ⟨_, _, _, rfl, rfl, rfl, hide (lk_b R8.out (Nat.le_trans KN.out.size (by simp; omega)) KR.out (((V2.out.set 0 (.int .i64 l0)).set 1 (.int .i64 l1)).set 2 (.string l2)) ((((Chg.refl (· = w7.heap.size + 1) w8).set (w7.heap.size + 1) 0 (.int .i64 l0) rfl).set (w7.heap.size + 1) 1 (.int .i64 l1) rfl).set (w7.heap.size + 1) 2 (.string l2) rfl) (Nat.le_succ_of_le KN.out.size) (by simp))⟩)
          | (have hq9 := Y2; exact ⟨_, _, _, rfl, rfl, rfl, hide (lk_b R8.out (Nat.le_trans KN.out.size (by simp; omega)) KR.out (((Y2.out.set 0 (.int .i64 l0)).set 1 (.int .i64 l1)).set 2 (.string l2)) ((((Chg.refl (· = w7.heap.size) w8).set (w7.heap.size) 0 (.int .i64 l0) rfl).set (w7.heap.size) 1 (.int .i64 l1) rfl).set (w7.heap.size) 2 (.string l2) rfl) KN.out.size (by simp; omega))⟩)
          | (have hq9 := Z2; exact ⟨_, _, _, rfl, rfl, rfl, hide (lk_b R8.out (Nat.le_trans KN.out.size (by simp; omega)) KR.out (((Z2.out.set 0 (.int .i64 l0)).set 1 (.int .i64 l1)).set 2 (.string l2)) ((((Chg.refl (· = wz.heap.size) w8).set (wz.heap.size) 0 (.int .i64 l0) rfl).set (wz.heap.size) 1 (.int .i64 l1) rfl).set (wz.heap.size) 2 (.string l2) rfl) (Nat.le_refl _) (by have := Z1.out.lt; simp; omega))⟩)
          | (exact ⟨_, _, _, rfl, rfl, rfl, hide (lk_a R8.out (Nat.le_trans KN.out.size (by simp; omega)) KR.out)⟩))
      case rest =>
        obtain ⟨Bv, ax, cx, rfl, rfl, rfl, hLk⟩ := hcut
        obtain ⟨VB, RL, KL⟩ := hLk.out
        have KC := hide (next K8.out KL)
        have MBc := hide (MB9.out.keep KL)
        have CBc := CB9.out.keep KL
        have hvc := hide (hv8.out.keep KL)
        have VBc := hide VB
        have RLc := hide RL
        clear VB RL KL hLk keyS s0 s1 s2 s3 s4 s5 s6 s7 s8 s9 s10 s11 s12 s13 s14 s15 g0 g1 KY9 WB9 MB9 CB9 K8 hv8 HN3
        have x0 := cell_regrown (show wc.cell? ⟨XC, 0, none⟩ = some (.int .i64 1) from CBc.at' 0)
        have x1 := cell_regrown (show wc.cell? ⟨XC, 1, none⟩ = some (.int .i64 M) from CBc.at' 1)
        have x2 := cell_regrown (show wc.cell? ⟨XC, 2, none⟩ = some (.string no) from CBc.at' 2)
        have eM := va_neq1 M
        have kq0 := fun d' os => Calls.regrown_of ((lnum_is M).out (grow (redrawn wc d') os))
        clear CBc
        go_upto_region 20 with fail
        refine wp_region_quiet_below (by kernel_rfl) (by kernel_rfl) ?_
        repeat (go_big_quiet_step (first | (with_reducible exact kq0 _ _)))
        refine wpQuiet_nil ?_
        intro wq hwq
        have hbq : Below wc.heap.size wc wq := by obtain ⟨⟨dq, osq⟩, hq⟩ := hwq; rw [hq]; exact below_regrown _ dq osq
        have KQ := hide (next KC.out hbq)
        have MBq := hide (MBc.out.keep hbq)
        have VBq := hide (VBc.out.keep hbq)
        have RLq := hide (RLc.out.keep hbq)
        have hvq := hide (hvc.out.keep hbq)
        clear hwq x0 x1 x2 kq0 eM hbq KC MBc VBc RLc hvc
        by_cases hf : fI x ns < m
        · obtain ⟨p, hp⟩ : ∃ p, fI x ns = p := ⟨_, rfl⟩
          have hmm := hm.out
          have e1 := hma.out
          have e2 := hnM.out
          have e3 := hlk.out
          have e4 := hnL.out
          have e5 := hLL.out
          have e6 := hF.out
          unfold maV at e1
          unfold maN at e2
          unfold lkV at e3
          unfold lkN at e4
          unfold lkL at e5
          unfold fst at e6
          rw [hmm] at e1 e2 e3 e4
          rw [if_pos hf] at e1 e2 e3 e4 e6
          rw [decide_eq_true hf, if_pos rfl] at e5
          rw [hp] at e1 e2 e3 e4 e5 e6 hf
          simp only [Va.mk.injEq] at e1
          obtain ⟨rfl, rfl, rfl⟩ := e1
          subst e2 e4 e6
          have hLq : Hid (LL[p + 1]? = some ((p : Int), (2 : Int)) ∧ 0 < LL.length) := hide (by rw [← e5]; simp)
          clear e5 hp hF hma hnM hlk hnL hLL hmm
          have hFn : ¬ (p : Int) < 0 := by omega
          have HN0 := lnum_is 0
          go_wp2_with fail
          refine (HN0.out _).mono ?_
          rintro e w9 ⟨rfl, hb9⟩
          have K9 := hide (next KQ.out hb9)
          have MB10 := hide (MBq.out.keep hb9)
          have VB10 := hide (VBq.out.keep hb9)
          have RL10 := hide (RLq.out.keep hb9)
          have hv10 := hide (hvq.out.keep hb9)
          clear hb9
          by_cases hq : p + 1 < m
          · have hq' : p + 1 < (ns.map nmV).length := by rw [List.length_map]; have := hm.out; omega
            obtain ⟨y, hy⟩ : ∃ y, (ns.map nmV)[p + 1]? = some ⟨1, y, no⟩ := ⟨ns[p + 1]'(by simpa using hq'), by rw [List.getElem?_map, List.getElem?_eq_getElem (by simpa using hq')]; rfl⟩
            rw [hy] at e3
            simp only [Option.getD_some, Va.mk.injEq] at e3
            obtain ⟨rfl, rfl, rfl⟩ := e3
            obtain ⟨bv, ov, rfl, hov⟩ : ∃ b o, av = some ⟨b, o, none⟩ ∧ ∀ (j : Nat) (x : Va), (ns.map nmV)[j]? = some x → VaAt w9 b (o + j * 3) x := by
              rcases hv10.out with h | h
              · rw [h] at hq'; cases hq'
              · exact h
            obtain ⟨A0, A1, A2⟩ := (hov (p + 1) _ hy).keep (step (Below.refl w9.heap.size w9) (vO 1 0 no))
            simp only at A0 A1 A2
            have p9 : (p : Int) + 1 < (m : Int) := by omega
            clear hov hy hq'
            go_upto_region 28 with fail
            obtain ⟨wn, hwn⟩ : ∃ wn, w9.alloc (.cells #[.int .i64 1, .int .i64 y, .string no] 28) = wn := ⟨_, rfl⟩
            have KN := hide (step K9.out (vO 1 y no))
            have BB := Blk.new w9 #[.int .i64 1, .int .i64 y, .string no] 28
            have MB11 := MB10.out.alloc (vO 1 y no)
            have VB11 := VB10.out.alloc (vO 1 y no)
            have RL11 := RL10.out.keep (step (Below.refl w9.heap.size w9) (vO 1 y no))
            simp only [vO] at KN MB11 VB11 RL11
            rw [hwn] at KN BB MB11 VB11 RL11
            try rw [hwn]
            obtain ⟨XB, hXB⟩ : ∃ XB, w9.heap.size = XB := ⟨_, rfl⟩
            rw [hXB] at BB
            try rw [hXB]
            clear hwn hXB
            obtain ⟨gf, rfl, hgf⟩ := RL11.at hLq.out.2
            have m0 := cell_regrown (show wn.cell? ⟨XM, 0, none⟩ = some (.int .i64 1) from MB11.at' 0)
            have m1 := cell_regrown (show wn.cell? ⟨XM, 1, none⟩ = some (.int .i64 ((p : Int) + 1)) from MB11.at' 1)
            have m2 := cell_regrown (show wn.cell? ⟨XM, 2, none⟩ = some (.string no) from MB11.at' 2)
            have v0 := cell_regrown (show wn.cell? ⟨Bv, 0, none⟩ = some (.int .i64 1) from VB11.at' 0)
            have v1 := cell_regrown (show wn.cell? ⟨Bv, 1, none⟩ = some (.int .i64 y) from VB11.at' 1)
            have v2 := cell_regrown (show wn.cell? ⟨Bv, 2, none⟩ = some (.string no) from VB11.at' 2)
            have b0 := cell_regrown (show wn.cell? ⟨XB, 0, none⟩ = some (.int .i64 1) from BB.at' 0)
            have b1 := cell_regrown (show wn.cell? ⟨XB, 1, none⟩ = some (.int .i64 y) from BB.at' 1)
            have b2 := cell_regrown (show wn.cell? ⟨XB, 2, none⟩ = some (.string no) from BB.at' 2)
            have f0 := cell_regrown (show wn.cell? ⟨gf, (p + 1) * 2, none⟩ = some (.int .i64 (p : Int)) from (hgf (p + 1) _ hLq.out.1).1)
            have f1 := cell_regrown (show wn.cell? ⟨gf, (p + 1) * 2 + 1, none⟩ = some (.int .i64 2) from (hgf (p + 1) _ hLq.out.1).2)
            have eP := va_eqA 1 ((p : Int) + 1)
            have eY := va_eqA 1 y
            have eS := sp_eqA (p : Int) 2
            have kq0 := fun d' os => Calls.regrown_of ((lnum_is ((p : Int) + 1)).out (grow (redrawn wn d') os))
            clear hgf MB11 VB11 RL11 BB
            refine wp_region_quiet_below (by kernel_rfl) (by kernel_rfl) ?_
            repeat (go_big_quiet_step (first | (with_reducible exact kq0 _ _)))
            refine wpQuiet_nil ?_
            intro wl hwl
            have hbl : Hid (Below wn.heap.size wn wl) := hide (by obtain ⟨⟨dq, osq⟩, hq⟩ := hwl; rw [hq]; exact below_regrown _ dq osq)
            clear hwl m0 m1 m2 v0 v1 v2 b0 b1 b2 f0 f1 eP eY eS kq0
            go_wp2_with fail
            go_ret
            exact ⟨rfl, next KN.out hbl.out⟩
          · have hq0 : (ns.map nmV)[p + 1]? = none := List.getElem?_eq_none (by rw [List.length_map]; have := hm.out; omega)
            rw [hq0] at e3
            simp only [Option.getD_none, Va.mk.injEq] at e3
            obtain ⟨rfl, rfl, rfl⟩ := e3
            have p9 : ¬ (p : Int) + 1 < (m : Int) := by omega
            go_upto_region 28 with fail
            obtain ⟨wn, hwn⟩ : ∃ wn, w9.alloc (.cells #[.int .i64 1, .int .i64 0, .string no] 28) = wn := ⟨_, rfl⟩
            have KN := hide (step K9.out (vO 1 0 no))
            have BB := Blk.new w9 #[.int .i64 1, .int .i64 0, .string no] 28
            have MB11 := MB10.out.alloc (vO 1 0 no)
            have VB11 := VB10.out.alloc (vO 1 0 no)
            have RL11 := RL10.out.keep (step (Below.refl w9.heap.size w9) (vO 1 0 no))
            simp only [vO] at KN MB11 VB11 RL11
            rw [hwn] at KN BB MB11 VB11 RL11
            try rw [hwn]
            obtain ⟨XB, hXB⟩ : ∃ XB, w9.heap.size = XB := ⟨_, rfl⟩
            rw [hXB] at BB
            try rw [hXB]
            clear hwn hXB
            obtain ⟨gf, rfl, hgf⟩ := RL11.at hLq.out.2
            have m0 := cell_regrown (show wn.cell? ⟨XM, 0, none⟩ = some (.int .i64 1) from MB11.at' 0)
            have m1 := cell_regrown (show wn.cell? ⟨XM, 1, none⟩ = some (.int .i64 ((p : Int) + 1)) from MB11.at' 1)
            have m2 := cell_regrown (show wn.cell? ⟨XM, 2, none⟩ = some (.string no) from MB11.at' 2)
            have v0 := cell_regrown (show wn.cell? ⟨Bv, 0, none⟩ = some (.int .i64 1) from VB11.at' 0)
            have v1 := cell_regrown (show wn.cell? ⟨Bv, 1, none⟩ = some (.int .i64 0) from VB11.at' 1)
            have v2 := cell_regrown (show wn.cell? ⟨Bv, 2, none⟩ = some (.string no) from VB11.at' 2)
            have b0 := cell_regrown (show wn.cell? ⟨XB, 0, none⟩ = some (.int .i64 1) from BB.at' 0)
            have b1 := cell_regrown (show wn.cell? ⟨XB, 1, none⟩ = some (.int .i64 0) from BB.at' 1)
            have b2 := cell_regrown (show wn.cell? ⟨XB, 2, none⟩ = some (.string no) from BB.at' 2)
            have f0 := cell_regrown (show wn.cell? ⟨gf, (p + 1) * 2, none⟩ = some (.int .i64 (p : Int)) from (hgf (p + 1) _ hLq.out.1).1)
            have f1 := cell_regrown (show wn.cell? ⟨gf, (p + 1) * 2 + 1, none⟩ = some (.int .i64 2) from (hgf (p + 1) _ hLq.out.1).2)
            have eP := va_eqA 1 ((p : Int) + 1)
            have eY := va_eqA 1 0
            have eS := sp_eqA (p : Int) 2
            have kq0 := fun d' os => Calls.regrown_of ((lnum_is ((p : Int) + 1)).out (grow (redrawn wn d') os))
            clear hgf MB11 VB11 RL11 BB
            refine wp_region_quiet_below (by kernel_rfl) (by kernel_rfl) ?_
            repeat (go_big_quiet_step (first | (with_reducible exact kq0 _ _)))
            refine wpQuiet_nil ?_
            intro wl hwl
            have hbl : Hid (Below wn.heap.size wn wl) := hide (by obtain ⟨⟨dq, osq⟩, hq⟩ := hwl; rw [hq]; exact below_regrown _ dq osq)
            clear hwl m0 m1 m2 v0 v1 v2 b0 b1 b2 f0 f1 eP eY eS kq0
            go_wp2_with fail
            go_ret
            exact ⟨rfl, next KN.out hbl.out⟩
        · have hmm := hm.out
          have hle := fI_le x ns
          have e1 := hma.out
          have e2 := hnM.out
          have e3 := hlk.out
          have e4 := hnL.out
          have e6 := hF.out
          unfold maV at e1
          unfold maN at e2
          unfold lkV at e3
          unfold lkN at e4
          unfold fst at e6
          rw [hmm] at e1 e2 e3 e4
          rw [if_neg hf] at e1 e2 e3 e4 e6
          simp only [Va.mk.injEq] at e1 e3
          obtain ⟨rfl, rfl, rfl⟩ := e1
          obtain ⟨rfl, rfl, rfl⟩ := e3
          subst e2 e4 e6
          clear hF hma hnM hlk hnL hLL hmm hle
          have c0 : ∀ o, (wq.alloc o).cell? ⟨XM, 0, none⟩ = some (.int .i64 4) := fun o => (MBq.out.alloc o).at' 0
          have c1 : ∀ o, (wq.alloc o).cell? ⟨XM, 1, none⟩ = some (.int .i64 6) := fun o => (MBq.out.alloc o).at' 1
          have c2 : ∀ o, (wq.alloc o).cell? ⟨XM, 2, none⟩ = some (.string no) := fun o => (MBq.out.alloc o).at' 2
          have v0 : ∀ o, (wq.alloc o).cell? ⟨Bv, 0, none⟩ = some (.int .i64 4) := fun o => (VBq.out.alloc o).at' 0
          have v1 : ∀ o, (wq.alloc o).cell? ⟨Bv, 1, none⟩ = some (.int .i64 6) := fun o => (VBq.out.alloc o).at' 1
          have v2 : ∀ o, (wq.alloc o).cell? ⟨Bv, 2, none⟩ = some (.string no) := fun o => (VBq.out.alloc o).at' 2
          have eA := va_eqA 4 6
          have KE := hide (step KQ.out (vO 4 6 no))
          go_wp2_with fail
          go_ret
          exact ⟨rfl, KE.out⟩
end Go.Proofs.YtchphbclaapfhaaGreatDoor
