/- FoldIfs: SUMIF wants a place of the first area, and, where that is equal, at once the one beside it; SUMPRODUCT wants pair by pair. Proved of the Go text. -/
import Derived.Test.YtnpdkojhlgchlaaGreatDoorIfR15
import Derived.Test.YtnpdkojhlgchlaaGreatDoorIfS15
import Derived.Test.YtnpdkojhlgchlaaGreatDoorFoldFinds
namespace Go.Proofs.YtnpdkojhlgchlaaGreatDoor
open Go.RowKit Go.Sort
open T9 (Blk Chg)
set_option linter.unusedVariables false
set_option linter.unusedSimpArgs false

theorem ints_at {w : World} {a : Option Addr} {ns : List Int} {j : Nat} {n : Int} (h : IntsAt w a ns) (hn : ns[j]? = some n) : ∃ b o, a = some ⟨b, o, none⟩ ∧ ∀ w', Below w.heap.size w w' → w'.cell? ⟨b, o + j, none⟩ = some (.int .i64 n) := by
  rcases h with h | ⟨b, o, h, g⟩
  · rw [h] at hn; cases hn
  · exact ⟨b, o, h, fun w' hb => keep1 hb (g j n hn)⟩
theorem rg1 (w : World) (n : Int) (k : Int) : (w.alloc (.cells #[.int .i64 k, .int .i64 n, .string no] 31)).rangeAt w.heap.size 0 (vaC ⟨k, n, no⟩) := fun jj u hu => by
  have hb := Blk.new w #[.int .i64 k, .int .i64 n, .string no] 31
  rw [hb.at', Nat.zero_add]
  simpa using hu
theorem rg2 (w : World) (n y : Int) : (w.alloc (.cells #[.int .i64 1, .int .i64 n, .string no, .int .i64 1, .int .i64 y, .string no] 31)).rangeAt w.heap.size 0 (vaC (nmV n) ++ vaC (nmV y)) := fun jj u hu => by
  have hb := Blk.new w #[.int .i64 1, .int .i64 n, .string no, .int .i64 1, .int .i64 y, .string no] 31
  rw [hb.at', Nat.zero_add]
  simpa using hu
theorem rgP (w : World) (p q : Int) : (w.alloc (.cells #[.int .i64 p, .int .i64 q] 47)).rangeAt w.heap.size 0 (spL (p, q)) := fun jj u hu => by
  have hb := Blk.new w #[.int .i64 p, .int .i64 q] 47
  rw [hb.at', Nat.zero_add]
  simpa using hu
theorem bel_app {B : Nat} {wy w w' : World} {v : Value} {L : List Va} (K : Below B wy w) (hB : B ≤ w.heap.size) (R : RowV w B v L) (g2 : w.grownBy w' v.ownBlock) : Below B wy w' := ⟨g2.os.trans K.os, g2.tape.trans K.tape, g2.output.trans K.output, Nat.le_trans K.size g2.size, fun k hk => (g2.block k (Nat.lt_of_lt_of_le hk hB) (fun e => by have := (owns_lt R k e.symm).1; omega)).trans (K.block k hk)⟩
theorem ob_add (c : Nat) (x : Int) : (c : Int) * x + x = ((c + 1 : Nat) : Int) * x := by rw [Int.natCast_add, Int.add_mul]; simp
theorem ob_bd {O x : Int} {c : Nat} (h : O = (c : Int) * x) (hc : c ≤ 300) (hx : -1000 < x ∧ x < 1000) : -300000 ≤ O ∧ O ≤ 300000 := by
  have h1 : (c : Int) * x ≤ (c : Int) * 1000 := Int.mul_le_mul_of_nonneg_left (by omega) (by omega)
  have h2 : (c : Int) * (-1000) ≤ (c : Int) * x := Int.mul_le_mul_of_nonneg_left (by omega) (by omega)
  omega
theorem va_neqE (k i : Int) (w : World) : (binOp .neq 31 (vV k i no) (vV k i no)).run Tryz.prog w = .ok (.bool false) w := by go_simp
theorem sp_neqE (p q : Int) (w : World) : (binOp .neq 47 (.agg #[.int .i64 p, .int .i64 q]) (.agg #[.int .i64 p, .int .i64 q])).run Tryz.prog w = .ok (.bool false) w := by go_simp
set_option maxHeartbeats 32000000 in
set_option maxRecDepth 100000 in
theorem fi_walk (ns ms : List Int) (x : Int) (bd : Nat) (hbd8 : bd < 256) (hx1 : -9223372036854775808 ≤ x) (hx2 : x ≤ 9223372036854775807) (a am : Option Addr) (cap len lenm capm : Nat) (hlm : ms.length = lenm) (HC0 : ∀ w, IntsAt w a ns → Calls Tryz.prog 7 #[.slice a len cap] w fun e w' => ∃ v, e = .returned (.tuple #[.slice a ns.length cap, v, agV (agC (ns.length : Nat))]) ∧ RowV w' (w.heap.size + 1) v (ns.map nmV) ∧ Below w.heap.size w w') (h3 : ns.length ≤ 300) (hbn : ∀ y ∈ ns, -9223372036854775808 ≤ y ∧ y ≤ 9223372036854775807) (w : World) (h : IntsAt w a ns) (hM : IntsAt w am ms) : Calls Tryz.prog 4 #[.slice a len cap, .slice am lenm capm, .int .i64 x, .int .u8 (bd : Int)] w fun e w' => e = .returned (.bool true) ∧ Below w.heap.size w w' := by
  obtain ⟨m, hm⟩ : ∃ m, ns.length = m := ⟨_, rfl⟩
  have R3 := hide (fun wrg (h1 : 1 ≤ m) (hml : ns.length ≤ ms.length) => run_sumIf3 x wrg hx1 hx2 (ysO ns ms) m (by rw [ys_len hml, hm]) h1 (by omega) (ys_bd hbn))
  have R2 := hide (fun (h1 : 1 ≤ m) => run_sumIf2 (x.tmod 1000) (tm_bd x) (ns.map (fun n => n.tmod 1000)) m (by simp [hm]) h1 (by omega) (fun y hy => by obtain ⟨n, _, rfl⟩ := List.mem_map.1 hy; have := tm_bd n; omega))
  have RP := hide (fun (h1 : 1 ≤ m) (hml : ns.length ≤ ms.length) => run_sumProduct (zsO ns ms) m (by rw [zs_len hml, hm]) h1 (by omega) zs_bd)
  rw [hm] at h3 HC0
  have HC := hide HC0
  replace h := hide h
  replace hM := hide hM
  replace hbn := hide hbn
  replace hlm := hide hlm
  clear HC0 hx1 hx2
  go_enter Tryz.func4, Tryz.ntmps4
  go_wp2_with fail
  refine (begun15.out _).mono ?_
  rintro e w1 ⟨rfl, hb1⟩
  have K1 := hide (next (Below.refl w.heap.size w) hb1)
  have h1 := hide (h.out.keep hb1)
  have M1 := hide (hM.out.keep hb1)
  clear hb1
  go_wp2_with fail
  refine (HC.out _ h1.out).mono ?_
  rintro e w2 ⟨v, rfl, hv, hb2⟩
  obtain ⟨av, nv, cv, rfl, hnv⟩ := hv.shapeN
  have K2 := hide (step (next K1.out hb2) (agO (agC (m : Nat))))
  have h2 := hide ((h1.out.keep hb2).keep (step (Below.refl _ _) (agO (agC (m : Nat)))))
  have M2 := hide ((M1.out.keep hb2).keep (step (Below.refl _ _) (agO (agC (m : Nat)))))
  have AX := hide (Blk.new w2 #[.bool true, .int .i64 0, .int .i64 0, .int .i64 ((m : Int) - 1), .int .i64 0, .int .i64 0, .int .i64 0, .string no] 41)
  replace hm := hide hm
  clear hb2 hv h1 M1 h hM hnv
  by_cases h0 : m = 0
  · subst h0
    go_wp2_with fail
    go_ret
    exact ⟨rfl, K2.out⟩
  have p0 : ((m : Int) == 0) = false := by simp; omega
  have hm1 : Hid (1 ≤ m) := hide (by omega)
  clear h0
  by_cases hml : lenm < m
  · have p1 : (lenm : Int) < (m : Int) := by omega
    go_wp2_with fail
    go_ret
    exact ⟨rfl, K2.out⟩
  have p1 : ¬ (lenm : Int) < (m : Int) := by omega
  have hll : Hid (ns.length ≤ ms.length) := hide (by rw [hm.out, hlm.out]; omega)
  clear hml
  obtain ⟨XA, hXA⟩ : ∃ XA, w2.heap.size = XA := ⟨_, rfl⟩
  have a0 : (w2.alloc (.cells #[.bool true, .int .i64 0, .int .i64 0, .int .i64 ((m : Int) - 1), .int .i64 0, .int .i64 0, .int .i64 0, .string no] 41)).cell? ⟨w2.heap.size, 0, none⟩ = some (.bool true) := AX.out.at' 0
  have a1 : (w2.alloc (.cells #[.bool true, .int .i64 0, .int .i64 0, .int .i64 ((m : Int) - 1), .int .i64 0, .int .i64 0, .int .i64 0, .string no] 41)).cell? ⟨w2.heap.size, 1, none⟩ = some (.int .i64 0) := AX.out.at' 1
  have a2 : (w2.alloc (.cells #[.bool true, .int .i64 0, .int .i64 0, .int .i64 ((m : Int) - 1), .int .i64 0, .int .i64 0, .int .i64 0, .string no] 41)).cell? ⟨w2.heap.size, 2, none⟩ = some (.int .i64 0) := AX.out.at' 2
  have a3 : (w2.alloc (.cells #[.bool true, .int .i64 0, .int .i64 0, .int .i64 ((m : Int) - 1), .int .i64 0, .int .i64 0, .int .i64 0, .string no] 41)).cell? ⟨w2.heap.size, 3, none⟩ = some (.int .i64 ((m : Int) - 1)) := AX.out.at' 3
  have a4 : (w2.alloc (.cells #[.bool true, .int .i64 0, .int .i64 0, .int .i64 ((m : Int) - 1), .int .i64 0, .int .i64 0, .int .i64 0, .string no] 41)).cell? ⟨w2.heap.size, 4, none⟩ = some (.int .i64 0) := AX.out.at' 4
  have a5 : (w2.alloc (.cells #[.bool true, .int .i64 0, .int .i64 0, .int .i64 ((m : Int) - 1), .int .i64 0, .int .i64 0, .int .i64 0, .string no] 41)).cell? ⟨w2.heap.size, 5, none⟩ = some (.int .i64 0) := AX.out.at' 5
  have a6 : (w2.alloc (.cells #[.bool true, .int .i64 0, .int .i64 0, .int .i64 ((m : Int) - 1), .int .i64 0, .int .i64 0, .int .i64 0, .string no] 41)).cell? ⟨w2.heap.size, 6, none⟩ = some (.int .i64 0) := AX.out.at' 6
  have a7 : (w2.alloc (.cells #[.bool true, .int .i64 0, .int .i64 0, .int .i64 ((m : Int) - 1), .int .i64 0, .int .i64 0, .int .i64 0, .string no] 41)).cell? ⟨w2.heap.size, 7, none⟩ = some (.string no) := AX.out.at' 7
  have HNx := lnum_is x
  go_wp2_with fail
  refine (HNx.out _).mono ?_
  rintro e w4 ⟨rfl, hb4⟩
  have h3b : Hid (Below (w2.alloc (agO (agC (m : Nat)))).heap.size (w2.alloc (agO (agC (m : Nat)))) w4) := hide (next (step (Below.refl _ _) (.cells #[.bool true, .int .i64 0, .int .i64 1, .int .i64 ((m : Int) - 1), .int .i64 1, .int .i64 0, .int .i64 0, .string no] 41)) hb4)
  have A4 := hide ((AX.out.alloc (.cells #[.bool true, .int .i64 0, .int .i64 1, .int .i64 ((m : Int) - 1), .int .i64 1, .int .i64 0, .int .i64 0, .string no] 41)).keep hb4)
  have B4 := hide (Blk.keep (T9.Blk.new1 w2 (.cells #[.bool true, .int .i64 0, .int .i64 0, .int .i64 ((m : Int) - 1), .int .i64 0, .int .i64 0, .int .i64 0, .string no] 41) #[.bool true, .int .i64 0, .int .i64 1, .int .i64 ((m : Int) - 1), .int .i64 1, .int .i64 0, .int .i64 0, .string no] 41) hb4)
  have K4 := hide (next K2.out h3b.out)
  obtain ⟨wk, hwk⟩ : ∃ wk, w2.alloc (agO (agC (m : Nat))) = wk := ⟨_, rfl⟩
  rw [hwk] at h3b h2 M2 K2
  obtain ⟨wg, hwg⟩ : ∃ wg, 2 * (m : Int) = wg := ⟨_, rfl⟩
  have hwg0 : (wg == 0) = false := by rw [← hwg]; simp; have := hm1.out; omega
  have hwg1 : ¬ wg = 0 := by rw [← hwg]; have := hm1.out; omega
  obtain ⟨wr0, hwr⟩ : ∃ wr0, (bd : Int).tmod wg = wr0 := ⟨_, rfl⟩
  clear a0 a1 a2 a3 a4 a5 a6 a7 hb4
  go_upto_region 14 with fail
  obtain ⟨wf, hwf⟩ : ∃ wf, (w4.alloc (.cells #[.bool false, .int .i64 0, .int .i64 0, .int .i64 0, .int .i64 0, .int .i64 1, .int .i64 x, .string no] 41)).alloc (.cells #[.int .i64 0, .int .i64 0, .string no] 31) = wf := ⟨_, rfl⟩
  have AF := hide ((A4.out.alloc (.cells #[.bool false, .int .i64 0, .int .i64 0, .int .i64 0, .int .i64 0, .int .i64 1, .int .i64 x, .string no] 41)).alloc (.cells #[.int .i64 0, .int .i64 0, .string no] 31))
  have BF := hide ((B4.out.alloc (.cells #[.bool false, .int .i64 0, .int .i64 0, .int .i64 0, .int .i64 0, .int .i64 1, .int .i64 x, .string no] 41)).alloc (.cells #[.int .i64 0, .int .i64 0, .string no] 31))
  have KF := hide ((Blk.new w4 #[.bool false, .int .i64 0, .int .i64 0, .int .i64 0, .int .i64 0, .int .i64 1, .int .i64 x, .string no] 41).alloc (.cells #[.int .i64 0, .int .i64 0, .string no] 31))
  have EF := hide (T9.Blk.new1 w4 (.cells #[.bool false, .int .i64 0, .int .i64 0, .int .i64 0, .int .i64 0, .int .i64 1, .int .i64 x, .string no] 41) #[.int .i64 0, .int .i64 0, .string no] 31)
  have WF := hide (step (step h3b.out (.cells #[.bool false, .int .i64 0, .int .i64 0, .int .i64 0, .int .i64 0, .int .i64 1, .int .i64 x, .string no] 41)) (.cells #[.int .i64 0, .int .i64 0, .string no] 31))
  obtain ⟨XK, hXK⟩ : ∃ XK, w4.heap.size = XK := ⟨_, rfl⟩
  rw [hXK] at KF EF
  rw [hXA] at AF BF
  have oXK : Hid (wk.heap.size ≤ XK) := hide (by rw [← hXK]; exact h3b.out.size)
  have oXA : Hid (XA + 1 = wk.heap.size) := hide (by rw [← hwk, ← hXA]; simp)
  rw [hwf] at AF BF KF EF WF
  try rw [hwf]
  try rw [hXK]
  have hzf : Hid (XK + 1 < wf.heap.size) := hide EF.out.lt
  replace hwr := hide hwr
  clear hwf hXK hXA hwg hwg0 hwg1 A4 B4 AX h3b K4
  have ys0 : Hid ((ysO ns ms).length = m) := hide (by rw [ys_len hll.out, hm.out])
  have hlk : Hid (Below w.heap.size w wf) := hide (next K2.out WF.out)
  have hSt : Hid (IfSt wf wf (XK + 1) (.slice none 0 0) (.slice none 0 0) (.slice none 0 0) [] (prV ((zsO ns ms).take 0)) [] 0 0) := hide ⟨RowV.nil _ _, RowV.nil _ _, RowP.nil _ _, EF.out, (fun k hk => by cases hk), (fun k hk => by cases hk), (fun k hk => by cases hk), hzf.out, Chg.refl _ _⟩
  go_wp2_with fail
  go_loopw [13, 14, 15, 17, 19, 21] (fun gv pv wv s d i wr => ∃ (j : Nat) (S D : Int) (en : Bool) (G : List Va) (L : List (Int × Int)), j ≤ m ∧ s = .int .i64 S ∧ d = .int .i64 D ∧ i = .int .i64 (j : Int) ∧ Hid (IfSt wf wr (XK + 1) gv pv wv G (prV ((zsO ns ms).take j)) L (if en then 4 else 0) (if en then 5 else 0)) ∧ Hid (InvI x wr0 (ysO ns ms) j en S G L) ∧ Hid (D = prD ((zsO ns ms).take j) 0) ∧ Hid (-(1000 * (j : Int)) ≤ S ∧ S ≤ 1000 * (j : Int)) ∧ Hid (G.length ≤ 2 * j ∧ L.length ≤ 2 * j)) (fun _ _ _ _ _ i _ => m - (intOf i).toNat)
  case atStart => exact ⟨0, 0, 0, false, [], [], Nat.zero_le _, rfl, rfl, rfl, hSt, hide (invI_0 _ _ _), hide rfl, hide ⟨by decide, by decide⟩, hide ⟨by simp, by simp⟩⟩
  case round =>
    obtain ⟨j, S, D, en, G, L, hj, rfl, rfl, rfl, ST, HI, HD, HS, HL⟩ := hrel
    obtain ⟨ag, ng, cg, rfl, hng⟩ := ST.out.hg.shapeN
    obtain ⟨ap, np, cp, rfl, hnp⟩ := ST.out.hp.shapeN
    obtain ⟨aw, nw, cw, rfl, hnw⟩ := ST.out.hw.shapeN
    replace hng := hide hng
    replace hnp := hide hnp
    replace hnw := hide hnw
    by_cases hlt : j < m
    · have q0 : (j : Int) < (m : Int) := by omega
      have q1 : (j : Int) < (lenm : Int) := by omega
      have hjn : j < ns.length := by have := hm.out; omega
      have hjm : j < ms.length := by have := hll.out; omega
      obtain ⟨b, oo, rfl, hN⟩ := ints_at h2.out (List.getElem?_eq_getElem hjn)
      obtain ⟨bm, om, rfl, hMc⟩ := ints_at M2.out (List.getElem?_eq_getElem hjm)
      have hya := hide (ys_at (List.getElem?_eq_getElem hjn) (List.getElem?_eq_getElem hjm))
      have hza := hide (zs_at (List.getElem?_eq_getElem hjn) (List.getElem?_eq_getElem hjm))
      generalize ns[j] = n at *
      generalize ms[j] = v at *
      obtain ⟨y, hy⟩ : ∃ y, v.tmod 1000 = y := ⟨_, rfl⟩
      obtain ⟨n1, hn1⟩ : ∃ n1, n.tmod 1000 = n1 := ⟨_, rfl⟩
      have by1 : -1000 < y ∧ y < 1000 := by rw [← hy]; exact tm_bd v
      have bn1 : -1000 < n1 ∧ n1 < 1000 := by rw [← hn1]; exact tm_bd n
      rw [hy] at hya hza
      rw [hn1] at hza
      have hps := hide (pr_snoc hza.out)
      have hDb : Hid (-(1000000 * (j : Int)) ≤ D ∧ D ≤ 1000000 * (j : Int)) := hide (by
        have := prD_bd ((zsO ns ms).take j) 0 0 (fun q hq => zs_bd q (List.mem_of_mem_take hq)) (by decide) (by decide)
        rw [← HD.out, List.length_take, zs_len hll.out, hm.out, Nat.zero_add, Nat.min_eq_left (by omega)] at this
        exact this)
      have hz0 := mul_small n1 y bn1 by1
      obtain ⟨z, hz⟩ : ∃ z, n1 * y = z := ⟨_, rfl⟩
      rw [hz] at hz0
      have hDb1 := hDb.out
      have hSb1 := HS.out
      have wz : wrap64 z = z := IntWalk.wrap64_in z ⟨by omega, by omega⟩
      have wd : wrap64 (D + z) = D + z := IntWalk.wrap64_in _ ⟨by omega, by omega⟩
      have ws : wrap64 (S + y) = S + y := IntWalk.wrap64_in _ ⟨by omega, by omega⟩
      have hIs : Hid (∀ w', Chg (· = XK + 1) wf w' → w'.cell? ⟨b, oo + j, none⟩ = some (.int .i64 n)) := hide (fun w' hc => hN w' (bel_chg WF.out (by have := oXK.out; omega) hc))
      have hMs : Hid (∀ w', Chg (· = XK + 1) wf w' → w'.cell? ⟨bm, om + j, none⟩ = some (.int .i64 v)) := hide (fun w' hc => hMc w' (bel_chg WF.out (by have := oXK.out; omega) hc))
      have hpl : Hid ((prV ((zsO ns ms).take j)).length < 1000000) := hide (by rw [prV_len, List.length_take]; omega)
      have hGl : Hid (G.length + 1 < 1000000 ∧ L.length + 1 < 1000000) := hide (by have := HL.out; omega)
      have hmm1 : Hid ((intOf (.int .i64 ((j : Int) + 1))).toNat = j + 1) := hide rfl
      have hmm2 : Hid ((intOf (.int .i64 (j : Int))).toNat = j) := hide rfl
      have hSn : Hid (-(1000 * ((j + 1 : Nat) : Int)) ≤ S ∧ S ≤ 1000 * ((j + 1 : Nat) : Int)) := hide (by omega)
      have hSy : Hid (-(1000 * ((j + 1 : Nat) : Int)) ≤ S + y ∧ S + y ≤ 1000 * ((j + 1 : Nat) : Int)) := hide (by omega)
      have hDn : Hid (D + z = prD ((zsO ns ms).take (j + 1)) 0) := hide (by rw [hps.out.2, ← HD.out, hz])
      have c0 := hIs.out wr ST.out.chg
      have d0 := hMs.out wr ST.out.chg
      clear hN hMc hjn hjm hz0 hDb1 hSb1 by1 bn1 hDb
      have HN1 := lnum_is n1
      have HNy := lnum_is y
      have HNn := lnum_is n
      go_wp2_with fail
      refine (HN1.out _).mono ?_
      rintro e w5 ⟨rfl, hb5⟩
      have ST5 := hide (ST.out.keep hb5)
      clear hb5
      go_wp2_with fail
      refine (HNy.out _).mono ?_
      rintro e w6 ⟨rfl, hb6⟩
      have ST6 := hide ((ST5.out.keep hb6).keep (step (Below.refl w6.heap.size w6) (.cells #[.int .i64 1, .int .i64 n1, .string no, .int .i64 1, .int .i64 y, .string no] 31)))
      have hB6 : Hid (wf.heap.size ≤ (w6.alloc (.cells #[.int .i64 1, .int .i64 n1, .string no, .int .i64 1, .int .i64 y, .string no] 31)).heap.size) := hide ST6.out.chg.size
      clear hb6
      have wdh := hide wd
      have wsh := hide ws
      cases en with
      | true =>
        go_wp2_with (refine wpList_appVV rfl _ _ rfl rfl rfl ST6.out.hp (nmV n1) (nmV y) (rg2 w6 n1 y) hpl.out hB6.out ?_; intro v7 w7 g1 g2 g3; rw [← hps.out.1] at g1; have ST7 := hide (ST6.out.appP g1 g2 g3); obtain ⟨ap7, np7, cp7, rfl, hnp7⟩ := g1.shapeN; replace hnp7 := hide hnp7; clear g1 g2 g3 c0 d0; have c0 := hIs.out w7 ST7.out.chg; have e0 : w7.cell? ⟨XK + 1, 0, none⟩ = some (.int .i64 4) := ST7.out.he.at' 0)
        refine ⟨⟨j + 1, S, _, true, G, L, hlt, rfl, rfl, rfl, ST7, hide (invI_en HI.out), hide (by rw [wdh.out]; exact hDn.out), hSn, hide (by have := HL.out; omega)⟩, ?_⟩
        rw [hmm1.out, hmm2.out]; omega
      | false =>
        go_wp2_with (refine wpList_appVV rfl _ _ rfl rfl rfl ST6.out.hp (nmV n1) (nmV y) (rg2 w6 n1 y) hpl.out hB6.out ?_; intro v7 w7 g1 g2 g3; rw [← hps.out.1] at g1; have ST7 := hide (ST6.out.appP g1 g2 g3); obtain ⟨ap7, np7, cp7, rfl, hnp7⟩ := g1.shapeN; replace hnp7 := hide hnp7; clear g1 g2 g3 c0 d0; have c0 := hIs.out w7 ST7.out.chg; have e0 : w7.cell? ⟨XK + 1, 0, none⟩ = some (.int .i64 0) := ST7.out.he.at' 0)
        clear ST ST5 ST6 hB6
        refine (HNn.out _).mono ?_
        rintro e w8 ⟨rfl, hb8⟩
        have ST8 := hide ((ST7.out.keep hb8).keep (step (Below.refl w8.heap.size w8) (.cells #[.int .i64 1, .int .i64 n, .string no] 31)))
        have hB8 : Hid (wf.heap.size ≤ (w8.alloc (.cells #[.int .i64 1, .int .i64 n, .string no] 31)).heap.size) := hide ST8.out.chg.size
        clear hb8 c0 e0
        have hG0 : Hid (G.length < 1000000) := hide (by have := hGl.out; omega)
        have hL0 : Hid (L.length < 1000000) := hide (by have := hGl.out; omega)
        have hG1 : Hid ((G ++ [nmV n]).length < 1000000) := hide (by have := hGl.out; simp; omega)
        have hL1 : Hid ((L ++ [((j : Int), (0 : Int))]).length < 1000000) := hide (by have := hGl.out; simp; omega)
        by_cases hnx : n = x
        · have q2 : (n != x) = false := by simp [hnx]
          have hyx : Hid ((ysO ns ms)[j]? = some (x, y)) := hide (by rw [hya.out, hnx])
          replace hnx := hide hnx
          by_cases hw : (j : Int) = wr0
          · have q3 : ((j : Int) == wr0) = true := by simp [hw]
            have HI2 : Hid (InvI x wr0 (ysO ns ms) (j + 1) true S ((G ++ [nmV n]) ++ [⟨4, 5, no⟩]) ((L ++ [((j : Int), 0)]) ++ [((j : Int), 1)])) := hide (by have e := invI_bad HI.out hyx.out hw; have hh := congrArg nmV hnx.out; rw [hh]; exact e)
            clear hyx
            replace hw := hide hw
            go_wp2_with (first | (have hq := STg; refine wpList_appVo rfl _ _ rfl rfl rfl STg.out.hg ⟨4, 5, no⟩ (rg1 we 5 4) hG1.out hBg.out ?_; intro vh wh g1 g2 g3; have STh := hide (STg.out.appG g1 g2 g3); obtain ⟨agh, ngh, cgh, rfl, hngh⟩ := g1.shapeN; replace hngh := hide hngh; clear g1 g2 g3 STg) | (have hq := STc; refine wpList_appP rfl _ _ rfl rfl rfl STc.out.hw ((j : Int), 1) (rgP wb j 1) hL1.out hBc.out ?_; intro vd wd9 g1 g2 g3; have STd := hide (STc.out.appW g1 g2 g3); obtain ⟨awd, nwd, cwd, rfl, hnwd⟩ := g1.shapeN; replace hnwd := hide hnwd; clear g1 g2 g3 STc; have z0 : wd9.cell? ⟨XK + 1, 0, none⟩ = some (.int .i64 0) := STd.out.he.at' 0; have z1 : wd9.cell? ⟨XK + 1, 1, none⟩ = some (.int .i64 0) := STd.out.he.at' 1; have z2 : wd9.cell? ⟨XK + 1, 2, none⟩ = some (.string no) := STd.out.he.at' 2; have zf := STd.out.he.fr; have h9 := ((STd.out.he.set 0 (.int .i64 4)).set 1 (.int .i64 5)).set 2 (.string no); have c9 := hide ((((Chg.refl (· = XK + 1) wd9).set (XK + 1) 0 (.int .i64 4) rfl).set (XK + 1) 1 (.int .i64 5) rfl).set (XK + 1) 2 (.string no) rfl); obtain ⟨we, hwe⟩ : ∃ we, put3 wd9 (XK + 1) (.int .i64 4) (.int .i64 5) (.string no) = we := ⟨_, rfl⟩; unfold put3 at hwe; rw [hwe] at h9 c9; have y0 : we.cell? ⟨XK + 1, 0, none⟩ = some (.int .i64 4) := h9.at' 0; have y1 : we.cell? ⟨XK + 1, 1, none⟩ = some (.int .i64 5) := h9.at' 1; have y2 : we.cell? ⟨XK + 1, 2, none⟩ = some (.string no) := h9.at' 2; have STe := hide (STd.out.setE (d0 := 4) (d1 := 5) h9 c9.out); replace h9 := hide h9; have STg := hide (STe.out.keep (step (Below.refl we.heap.size we) (.cells #[.int .i64 4, .int .i64 5, .string no] 31))); have hBg : Hid (wf.heap.size ≤ (we.alloc (.cells #[.int .i64 4, .int .i64 5, .string no] 31)).heap.size) := hide STg.out.chg.size) | (have hq := STa; refine wpList_appP rfl _ _ rfl rfl rfl STa.out.hw ((j : Int), 0) (rgP w9 j 0) hL0.out hBa.out ?_; intro vb wb g1 g2 g3; have STb := hide (STa.out.appW g1 g2 g3); obtain ⟨awb, nwb, cwb, rfl, hnwb⟩ := g1.shapeN; replace hnwb := hide hnwb; clear g1 g2 g3 STa; have c0 := hIs.out wb STb.out.chg; have STc := hide (STb.out.keep (step (Below.refl wb.heap.size wb) (.cells #[.int .i64 (j : Int), .int .i64 1] 47))); have hBc : Hid (wf.heap.size ≤ (wb.alloc (.cells #[.int .i64 (j : Int), .int .i64 1] 47)).heap.size) := hide STc.out.chg.size) | (have hq := ST8; refine wpList_appVo rfl _ _ rfl rfl rfl ST8.out.hg (nmV n) (rg1 w8 n 1) hG0.out hB8.out ?_; intro v9 w9 g1 g2 g3; have ST9 := hide (ST8.out.appG g1 g2 g3); obtain ⟨ag9, ng9, cg9, rfl, hng9⟩ := g1.shapeN; replace hng9 := hide hng9; clear g1 g2 g3; have STa := hide (ST9.out.keep (step (Below.refl w9.heap.size w9) (.cells #[.int .i64 (j : Int), .int .i64 0] 47))); have hBa : Hid (wf.heap.size ≤ (w9.alloc (.cells #[.int .i64 (j : Int), .int .i64 0] 47)).heap.size) := hide STa.out.chg.size; clear ST8))
            refine ⟨⟨j + 1, S, _, true, _, _, hlt, rfl, rfl, rfl, STh, HI2, hide (by first | exact hDn.out | (rw [wdh.out]; exact hDn.out)), hSn, hide (by have := HL.out; simp; omega)⟩, ?_⟩
            rw [hmm1.out, hmm2.out]; omega
          · have q3 : ((j : Int) == wr0) = false := by simp [hw]
            have HI2 : Hid (InvI x wr0 (ysO ns ms) (j + 1) false (S + y) ((G ++ [nmV n]) ++ [nmV y]) ((L ++ [((j : Int), 0)]) ++ [((j : Int), 1)])) := hide (by have e := invI_yes HI.out hyx.out hw; have hh := congrArg nmV hnx.out; rw [hh]; exact e)
            clear hyx
            replace hw := hide hw
            go_wp2_with (first | (have hq := STc; refine wpList_appP rfl _ _ rfl rfl rfl STc.out.hw ((j : Int), 1) (rgP wb j 1) hL1.out hBc.out ?_; intro vd wd9 g1 g2 g3; have STd := hide (STc.out.appW g1 g2 g3); obtain ⟨awd, nwd, cwd, rfl, hnwd⟩ := g1.shapeN; replace hnwd := hide hnwd; clear g1 g2 g3 STc) | (have hq := STa; refine wpList_appP rfl _ _ rfl rfl rfl STa.out.hw ((j : Int), 0) (rgP w9 j 0) hL0.out hBa.out ?_; intro vb wb g1 g2 g3; have STb := hide (STa.out.appW g1 g2 g3); obtain ⟨awb, nwb, cwb, rfl, hnwb⟩ := g1.shapeN; replace hnwb := hide hnwb; clear g1 g2 g3 STa; have c0 := hIs.out wb STb.out.chg; have STc := hide (STb.out.keep (step (Below.refl wb.heap.size wb) (.cells #[.int .i64 (j : Int), .int .i64 1] 47))); have hBc : Hid (wf.heap.size ≤ (wb.alloc (.cells #[.int .i64 (j : Int), .int .i64 1] 47)).heap.size) := hide STc.out.chg.size) | (have hq := ST8; refine wpList_appVo rfl _ _ rfl rfl rfl ST8.out.hg (nmV n) (rg1 w8 n 1) hG0.out hB8.out ?_; intro v9 w9 g1 g2 g3; have ST9 := hide (ST8.out.appG g1 g2 g3); obtain ⟨ag9, ng9, cg9, rfl, hng9⟩ := g1.shapeN; replace hng9 := hide hng9; clear g1 g2 g3; have STa := hide (ST9.out.keep (step (Below.refl w9.heap.size w9) (.cells #[.int .i64 (j : Int), .int .i64 0] 47))); have hBa : Hid (wf.heap.size ≤ (w9.alloc (.cells #[.int .i64 (j : Int), .int .i64 0] 47)).heap.size) := hide STa.out.chg.size; clear ST8))
            refine (HNy.out _).mono ?_
            rintro e we ⟨rfl, hbe⟩
            have STg := hide ((STd.out.keep hbe).keep (step (Below.refl we.heap.size we) (.cells #[.int .i64 1, .int .i64 y, .string no] 31)))
            have hBg : Hid (wf.heap.size ≤ (we.alloc (.cells #[.int .i64 1, .int .i64 y, .string no] 31)).heap.size) := hide STg.out.chg.size
            clear hbe
            go_wp2_with (refine wpList_appVo rfl _ _ rfl rfl rfl STg.out.hg (nmV y) (rg1 we y 1) hG1.out hBg.out ?_; intro vh wh g1 g2 g3; have STh := hide (STg.out.appG g1 g2 g3); obtain ⟨agh, ngh, cgh, rfl, hngh⟩ := g1.shapeN; replace hngh := hide hngh; clear g1 g2 g3)
            refine ⟨⟨j + 1, _, _, false, _, _, hlt, rfl, rfl, rfl, STh, hide (by first | exact HI2.out | (rw [wsh.out]; exact HI2.out)), hide (by first | exact hDn.out | (rw [wdh.out]; exact hDn.out)), hide (by first | exact hSy.out | (rw [wsh.out]; exact hSy.out)), hide (by have := HL.out; simp; omega)⟩, ?_⟩
            rw [hmm1.out, hmm2.out]; omega
        · have q2 : (n != x) = true := by simp [hnx]
          have HI2 := hide (invI_no HI.out hya.out hnx)
          replace hnx := hide hnx
          go_wp2_with (first | (have hq := STa; refine wpList_appP rfl _ _ rfl rfl rfl STa.out.hw ((j : Int), 0) (rgP w9 j 0) hL0.out hBa.out ?_; intro vb wb g1 g2 g3; have STb := hide (STa.out.appW g1 g2 g3); obtain ⟨awb, nwb, cwb, rfl, hnwb⟩ := g1.shapeN; replace hnwb := hide hnwb; clear g1 g2 g3 STa; have c0 := hIs.out wb STb.out.chg) | (have hq := ST8; refine wpList_appVo rfl _ _ rfl rfl rfl ST8.out.hg (nmV n) (rg1 w8 n 1) hG0.out hB8.out ?_; intro v9 w9 g1 g2 g3; have ST9 := hide (ST8.out.appG g1 g2 g3); obtain ⟨ag9, ng9, cg9, rfl, hng9⟩ := g1.shapeN; replace hng9 := hide hng9; clear g1 g2 g3; have STa := hide (ST9.out.keep (step (Below.refl w9.heap.size w9) (.cells #[.int .i64 (j : Int), .int .i64 0] 47))); have hBa : Hid (wf.heap.size ≤ (w9.alloc (.cells #[.int .i64 (j : Int), .int .i64 0] 47)).heap.size) := hide STa.out.chg.size; clear ST8))
          refine ⟨⟨j + 1, S, _, false, _, _, hlt, rfl, rfl, rfl, STb, HI2, hide (by first | exact hDn.out | (rw [wdh.out]; exact hDn.out)), hSn, hide (by have := HL.out; simp; omega)⟩, ?_⟩
          rw [hmm1.out, hmm2.out]; omega
    · obtain rfl : m = j := by omega
      have hEnd := HI.out
      rw [← ys0.out] at hEnd
      replace hEnd := hide (invI_end hEnd)
      have hDe : Hid (D = prD (zsO ns ms) 0) := hide (by rw [HD.out, List.take_of_length_le (by rw [zs_len hll.out, hm.out]; exact Nat.le_refl _)])
      have STp : Hid (IfSt wf wr (XK + 1) (.slice ag ng cg) (.slice ap np cp) (.slice aw nw cw) G (prV (zsO ns ms)) L (if en then 4 else 0) (if en then 5 else 0)) := hide (by have e := ST.out; rw [List.take_of_length_le (by rw [zs_len hll.out, hm.out]; exact Nat.le_refl _)] at e; exact e)
      have R3 := hide (R3.out wr0 hm1.out hll.out)
      have R2 := hide (R2.out hm1.out)
      have RP := hide (RP.out hm1.out hll.out)
      obtain ⟨⟨E0, E1, E2⟩, hE⟩ : ∃ ve : Va, (if en then (⟨4, 5, no⟩ : Va) else ⟨1, S, no⟩) = ve := ⟨_, rfl⟩
      rw [hE] at hEnd
      rw [hEnd.out] at R3
      simp only at R3
      have hE2 : E2 = no := by cases en <;> (simp at hE; exact hE.2.2.symm)
      subst hE2
      have HNs := lnum_is S
      have hng2 := hng.out
      have hnw2 := hnw.out
      have hnp2 : np = 2 * m := by rw [hnp.out, prV_len, List.length_take, zs_len hll.out, hm.out, Nat.min_self]
      subst hng2 hnw2 hnp2
      clear HI HD HS ST hlt hj hng hnw hnp
      have e0 : wr.cell? ⟨XK + 1, 0, none⟩ = some (.int .i64 (if en then 4 else 0)) := STp.out.he.at' 0
      go_upto_if 145 with fail
      go_cut [18] from 143 to 147 (fun c18 wx => c18 = .int .i64 0 ∧ Hid (IfSt wf wx (XK + 1) (.slice ag G.length cg) (.slice ap (2 * m) cp) (.slice aw L.length cw) G (prV (zsO ns ms)) L E0 E1))
      case first =>
        cases en with
        | true =>
          simp only [if_true, Va.mk.injEq] at hE
          obtain ⟨rfl, rfl, _⟩ := hE
          simp only [if_true] at STp
          go_wp2_with fail
          go_meet
          exact ⟨rfl, STp⟩
        | false =>
          simp only [Bool.false_eq_true, if_false, Va.mk.injEq] at hE
          obtain ⟨rfl, rfl, _⟩ := hE
          simp only [Bool.false_eq_true, if_false] at STp
          go_wp2_with fail
          refine (HNs.out _).mono ?_
          rintro e w5 ⟨rfl, hb5⟩
          have ST5 := hide (STp.out.keep hb5)
          have z0 : w5.cell? ⟨XK + 1, 0, none⟩ = some (.int .i64 0) := ST5.out.he.at' 0
          have z1 : w5.cell? ⟨XK + 1, 1, none⟩ = some (.int .i64 0) := ST5.out.he.at' 1
          have z2 : w5.cell? ⟨XK + 1, 2, none⟩ = some (.string no) := ST5.out.he.at' 2
          have zf := ST5.out.he.fr
          have h9 := ((ST5.out.he.set 0 (.int .i64 1)).set 1 (.int .i64 S)).set 2 (.string no)
          have c9 := (((Chg.refl (· = XK + 1) w5).set (XK + 1) 0 (.int .i64 1) rfl).set (XK + 1) 1 (.int .i64 S) rfl).set (XK + 1) 2 (.string no) rfl
          clear hb5 e0
          go_wp2_with fail
          go_meet
          exact ⟨rfl, hide (ST5.out.setE h9 c9)⟩
      case rest =>
        obtain ⟨rfl, STc⟩ := hcut
        have Ac := hide (STc.out.chg.blk AF.out (by have := oXA.out; have := oXK.out; omega))
        have Bc := hide (STc.out.chg.blk BF.out (by have := oXA.out; have := oXK.out; omega))
        have Kc := hide (STc.out.chg.blk KF.out (by omega))
        have KKc : Hid (Below w.heap.size w wc) := hide (bel_chg hlk.out (by have := K2.out.size; have := oXK.out; omega) STc.out.chg)
        have hIc := hide (h2.out.keep (bel_chg WF.out (by have := oXK.out; omega) STc.out.chg))
        clear STp e0 HNs AF BF KF EF hSt hlk hE hEnd h2 M2 WF
        have s0 : wc.cell? ⟨XA, 0, none⟩ = some (.bool true) := Ac.out.at' 0
        have s1 : wc.cell? ⟨XA, 1, none⟩ = some (.int .i64 0) := Ac.out.at' 1
        have s2 : wc.cell? ⟨XA, 2, none⟩ = some (.int .i64 0) := Ac.out.at' 2
        have s3 : wc.cell? ⟨XA, 3, none⟩ = some (.int .i64 ((m : Int) - 1)) := Ac.out.at' 3
        have s4 : wc.cell? ⟨XA, 4, none⟩ = some (.int .i64 0) := Ac.out.at' 4
        have s5 : wc.cell? ⟨XA, 5, none⟩ = some (.int .i64 0) := Ac.out.at' 5
        have s6 : wc.cell? ⟨XA, 6, none⟩ = some (.int .i64 0) := Ac.out.at' 6
        have s7 : wc.cell? ⟨XA, 7, none⟩ = some (.string no) := Ac.out.at' 7
        have t0 : wc.cell? ⟨XK, 0, none⟩ = some (.bool false) := Kc.out.at' 0
        have t1 : wc.cell? ⟨XK, 1, none⟩ = some (.int .i64 0) := Kc.out.at' 1
        have t2 : wc.cell? ⟨XK, 2, none⟩ = some (.int .i64 0) := Kc.out.at' 2
        have t3 : wc.cell? ⟨XK, 3, none⟩ = some (.int .i64 0) := Kc.out.at' 3
        have t4 : wc.cell? ⟨XK, 4, none⟩ = some (.int .i64 0) := Kc.out.at' 4
        have t5 : wc.cell? ⟨XK, 5, none⟩ = some (.int .i64 1) := Kc.out.at' 5
        have t6 : wc.cell? ⟨XK, 6, none⟩ = some (.int .i64 x) := Kc.out.at' 6
        have t7 : wc.cell? ⟨XK, 7, none⟩ = some (.string no) := Kc.out.at' 7
        have qq0 : wc.cell? ⟨(XA + 1), 0, none⟩ = some (.bool true) := Bc.out.at' 0
        have qq1 : wc.cell? ⟨(XA + 1), 1, none⟩ = some (.int .i64 0) := Bc.out.at' 1
        have qq2 : wc.cell? ⟨(XA + 1), 2, none⟩ = some (.int .i64 1) := Bc.out.at' 2
        have qq3 : wc.cell? ⟨(XA + 1), 3, none⟩ = some (.int .i64 ((m : Int) - 1)) := Bc.out.at' 3
        have qq4 : wc.cell? ⟨(XA + 1), 4, none⟩ = some (.int .i64 1) := Bc.out.at' 4
        have qq5 : wc.cell? ⟨(XA + 1), 5, none⟩ = some (.int .i64 0) := Bc.out.at' 5
        have qq6 : wc.cell? ⟨(XA + 1), 6, none⟩ = some (.int .i64 0) := Bc.out.at' 6
        have qq7 : wc.cell? ⟨(XA + 1), 7, none⟩ = some (.string no) := Bc.out.at' 7
        have hv5 := hide ((STc.out.hg.keep (step (Below.refl wc.heap.size wc) (.cells #[.bool true, .int .i64 0, .int .i64 0, .int .i64 ((m : Int) - 1), .int .i64 0, .int .i64 0, .int .i64 0, .string no, .bool false, .int .i64 0, .int .i64 0, .int .i64 0, .int .i64 0, .int .i64 1, .int .i64 x, .string no, .bool true, .int .i64 0, .int .i64 1, .int .i64 ((m : Int) - 1), .int .i64 1, .int .i64 0, .int .i64 0, .string no] 41))).vals)
        have C73 := hide (R3.out (wc.alloc (.cells #[.bool true, .int .i64 0, .int .i64 0, .int .i64 ((m : Int) - 1), .int .i64 0, .int .i64 0, .int .i64 0, .string no, .bool false, .int .i64 0, .int .i64 0, .int .i64 0, .int .i64 0, .int .i64 1, .int .i64 x, .string no, .bool true, .int .i64 0, .int .i64 1, .int .i64 ((m : Int) - 1), .int .i64 1, .int .i64 0, .int .i64 0, .string no] 41)) wc.heap.size (argsB3 (x := agC (m : Nat)) (y := agN x) (z := agB m) (Blk.new wc _ _)) ag cg hv5.out)
        have ST5 := hide (STc.out.keep (step (Below.refl wc.heap.size wc) (.cells #[.bool true, .int .i64 0, .int .i64 0, .int .i64 ((m : Int) - 1), .int .i64 0, .int .i64 0, .int .i64 0, .string no, .bool false, .int .i64 0, .int .i64 0, .int .i64 0, .int .i64 0, .int .i64 1, .int .i64 x, .string no, .bool true, .int .i64 0, .int .i64 1, .int .i64 ((m : Int) - 1), .int .i64 1, .int .i64 0, .int .i64 0, .string no] 41)))
        have AX5 := hide (Ac.out.alloc (.cells #[.bool true, .int .i64 0, .int .i64 0, .int .i64 ((m : Int) - 1), .int .i64 0, .int .i64 0, .int .i64 0, .string no, .bool false, .int .i64 0, .int .i64 0, .int .i64 0, .int .i64 0, .int .i64 1, .int .i64 x, .string no, .bool true, .int .i64 0, .int .i64 1, .int .i64 ((m : Int) - 1), .int .i64 1, .int .i64 0, .int .i64 0, .string no] 41))
        have BX5 := hide (Bc.out.alloc (.cells #[.bool true, .int .i64 0, .int .i64 0, .int .i64 ((m : Int) - 1), .int .i64 0, .int .i64 0, .int .i64 0, .string no, .bool false, .int .i64 0, .int .i64 0, .int .i64 0, .int .i64 0, .int .i64 1, .int .i64 x, .string no, .bool true, .int .i64 0, .int .i64 1, .int .i64 ((m : Int) - 1), .int .i64 1, .int .i64 0, .int .i64 0, .string no] 41))
        have KX5 := hide (Kc.out.alloc (.cells #[.bool true, .int .i64 0, .int .i64 0, .int .i64 ((m : Int) - 1), .int .i64 0, .int .i64 0, .int .i64 0, .string no, .bool false, .int .i64 0, .int .i64 0, .int .i64 0, .int .i64 0, .int .i64 1, .int .i64 x, .string no, .bool true, .int .i64 0, .int .i64 1, .int .i64 ((m : Int) - 1), .int .i64 1, .int .i64 0, .int .i64 0, .string no] 41))
        have KK5 := hide (step KKc.out (.cells #[.bool true, .int .i64 0, .int .i64 0, .int .i64 ((m : Int) - 1), .int .i64 0, .int .i64 0, .int .i64 0, .string no, .bool false, .int .i64 0, .int .i64 0, .int .i64 0, .int .i64 0, .int .i64 1, .int .i64 x, .string no, .bool true, .int .i64 0, .int .i64 1, .int .i64 ((m : Int) - 1), .int .i64 1, .int .i64 0, .int .i64 0, .string no] 41))
        have hI5 := hide (hIc.out.keep (step (Below.refl wc.heap.size wc) (.cells #[.bool true, .int .i64 0, .int .i64 0, .int .i64 ((m : Int) - 1), .int .i64 0, .int .i64 0, .int .i64 0, .string no, .bool false, .int .i64 0, .int .i64 0, .int .i64 0, .int .i64 0, .int .i64 1, .int .i64 x, .string no, .bool true, .int .i64 0, .int .i64 1, .int .i64 ((m : Int) - 1), .int .i64 1, .int .i64 0, .int .i64 0, .string no] 41)))
        go_wp2_with fail
        refine C73.out.mono ?_
        rintro e w6 ⟨a6, c6, rfl, r6, hb6⟩
        have ST6 := hide ((ST5.out.keep hb6).keep (step (Below.refl w6.heap.size w6) (vO E0 E1 no)))
        have AX6 := hide ((AX5.out.keep hb6).alloc (vO E0 E1 no))
        have BX6 := hide ((BX5.out.keep hb6).alloc (vO E0 E1 no))
        have VX6 := hide (Blk.new w6 #[.int .i64 E0, .int .i64 E1, .string no] 31)
        have KK6 := hide (step (next KK5.out hb6) (vO E0 E1 no))
        have hI6 := hide ((hI5.out.keep hb6).keep (step (Below.refl w6.heap.size w6) (vO E0 E1 no)))
        have RR6 := hide (r6.keep (step (Below.refl w6.heap.size w6) (vO E0 E1 no)))
        have z0 : (w6.alloc (vO E0 E1 no)).cell? ⟨XK + 1, 0, none⟩ = some (.int .i64 E0) := ST6.out.he.at' 0
        have z1 : (w6.alloc (vO E0 E1 no)).cell? ⟨XK + 1, 1, none⟩ = some (.int .i64 E1) := ST6.out.he.at' 1
        have z2 : (w6.alloc (vO E0 E1 no)).cell? ⟨XK + 1, 2, none⟩ = some (.string no) := ST6.out.he.at' 2
        have eE := va_neqE E0 E1
        clear hb6 r6 ST5 AX5 BX5 KX5 KK5 hI5 hv5 C73 Ac Bc Kc KKc hIc STc R3 s0 s1 s2 s3 s4 s5 s6 s7 t0 t1 t2 t3 t4 t5 t6 t7 qq0 qq1 qq2 qq3 qq4 qq5 qq6 qq7
        go_upto_region 35 with fail
        simp only [vO] at ST6 AX6 BX6 KK6 hI6 RR6
        obtain ⟨wn, hwn⟩ : ∃ wn, w6.alloc (.cells #[.int .i64 E0, .int .i64 E1, .string no] 31) = wn := ⟨_, rfl⟩
        rw [hwn] at ST6 AX6 BX6 KK6 hI6 RR6
        try rw [hwn]
        clear hwn z0 z1 z2 eE VX6
        obtain ⟨XV, hXV⟩ : ∃ XV, w6.heap.size = XV := ⟨_, rfl⟩
        try rw [hXV]
        clear hXV
        have PV6 := hide ST6.out.hp.vals
        have WV6 := hide ST6.out.hw
        clear ST6
        go_wp2_with fail
        go_loopw [26] (fun i wr => ∃ j : Nat, j ≤ L.length ∧ i = .int .i64 (j : Int) ∧ Hid (Below wn.heap.size wn wr)) (fun i _ => L.length - (intOf i).toNat)
        case atStart => exact ⟨0, Nat.zero_le _, rfl, hide (Below.refl _ _)⟩
        case round =>
          obtain ⟨j, hj, rfl, hB⟩ := hrel
          by_cases hlt : j < L.length
          · have q0 : (j : Int) < (L.length : Int) := by omega
            have hpos : 0 < L.length := by omega
            obtain ⟨gl, rfl, hgl⟩ := RR6.out.at hpos
            obtain ⟨gw, rfl, hgw⟩ := WV6.out.at hpos
            obtain ⟨⟨sp, sq⟩, hs⟩ : ∃ s, L[j]? = some s := ⟨L[j], List.getElem?_eq_getElem hlt⟩
            have a0 := cell_regrown (keep1 hB.out (hgl j _ hs).1)
            have a1 := cell_regrown (keep1 hB.out (hgl j _ hs).2)
            have b0 := cell_regrown (keep1 hB.out (hgw j _ hs).1)
            have b1 := cell_regrown (keep1 hB.out (hgw j _ hs).2)
            simp only at a0 a1 b0 b1
            have eS := sp_neqE sp sq
            have j3 : (j : Int) < 1000000 := by have := HL.out; omega
            have hmm1 : Hid ((intOf (.int .i64 ((j : Int) + 1))).toNat = j + 1) := hide rfl
            have hmm2 : Hid ((intOf (.int .i64 (j : Int))).toNat = j) := hide rfl
            replace hs := hide hs
            clear hgl hgw hpos
            go_upto_region 38 with fail
            refine wp_region_quiet_below (by kernel_rfl) (by kernel_rfl) ?_
            repeat (go_big_quiet_step (fail))
            refine wpQuiet_nil ?_
            intro q1 hwq
            have B1 : Hid (Below wr.heap.size wr q1) := hide (by obtain ⟨⟨dq, osq⟩, hq⟩ := hwq; rw [hq]; exact below_regrown _ dq osq)
            have B2 := hide (next hB.out B1.out)
            clear hwq a0 a1 b0 b1 eS B1
            go_wp2_with fail
            refine ⟨⟨j + 1, hlt, rfl, B2⟩, ?_⟩
            rw [hmm1.out, hmm2.out]; omega
          · obtain rfl : j = L.length := by omega
            obtain ⟨wy, rfl⟩ : ∃ wy, wy = wr := ⟨_, rfl⟩
            have K7 := hide (next KK6.out hB.out)
            have A7 := hide (AX6.out.keep hB.out)
            have B7 := hide (BX6.out.keep hB.out)
            have P7 := hide (PV6.out.keep hB.out)
            have I7 := hide (hI6.out.keep hB.out)
            clear KK6 AX6 BX6 PV6 hI6 RR6 WV6 hB hj hlt
            obtain ⟨x1, hx1⟩ : ∃ x1, x.tmod 1000 = x1 := ⟨_, rfl⟩
            have bx := tm_bd x
            rw [hx1] at R2 bx
            obtain ⟨qs, hqs⟩ : ∃ qs, ns.map (fun n => n.tmod 1000) = qs := ⟨_, rfl⟩
            rw [hqs] at R2
            have hql : Hid (qs.length = m) := hide (by rw [← hqs, List.length_map, hm.out])
            replace hqs := hide hqs
            go_wp2_with fail
            go_loopw [18, 27, 28] (fun ow v i wr => ∃ (j : Nat) (O : Int), j ≤ m ∧ ow = .int .i64 O ∧ i = .int .i64 (j : Int) ∧ Hid (RowV wr wy.heap.size v ((qs.take j).map nmV)) ∧ Hid (Below wy.heap.size wy wr) ∧ Hid (O = (cI x1 (qs.take j) : Nat) * x1)) (fun _ _ i _ => m - (intOf i).toNat)
            case atStart => exact ⟨0, 0, Nat.zero_le _, rfl, rfl, hide (RowV.nil _ _), hide (Below.refl _ _), hide (by simp [cI])⟩
            case round =>
              obtain ⟨j, O, hj, rfl, rfl, HR, HB, HO⟩ := hrel
              obtain ⟨al, nl, cl, rfl, hnl⟩ := HR.out.shapeN
              replace hnl := hide hnl
              by_cases hlt : j < m
              · have q0 : (j : Int) < (m : Int) := by omega
                have hjn : j < ns.length := by have := hm.out; omega
                obtain ⟨b, oo, rfl, hN⟩ := ints_at I7.out (List.getElem?_eq_getElem hjn)
                have hjq : j < qs.length := by have := hql.out; omega
                have hqe : Hid (qs[j] = (ns[j]).tmod 1000) := hide (by have e := hqs.out; subst e; simp)
                have htk : Hid ((qs.take j).map nmV ++ [nmV qs[j]] = (qs.take (j + 1)).map nmV) := hide (by rw [List.take_succ_eq_append_getElem hjq, List.map_append]; rfl)
                have hcs := hide (cI_snoc x1 qs j hjq)
                have hcl : Hid (cI x1 (qs.take j) ≤ 300) := hide (by have := cI_le x1 (qs.take j); rw [List.length_take] at this; omega)
                rw [hqe.out] at htk hcs
                generalize ns[j] = n at *
                obtain ⟨n1, hn1⟩ : ∃ n1, n.tmod 1000 = n1 := ⟨_, rfl⟩
                rw [hn1] at htk hcs
                have hOb : -300000 ≤ O ∧ O ≤ 300000 := ob_bd HO.out hcl.out bx
                have hIs : Hid (∀ w', Below wy.heap.size wy w' → w'.cell? ⟨b, oo + j, none⟩ = some (.int .i64 n)) := hide hN
                have c0 := hIs.out wr HB.out
                have HN1 := lnum_is n1
                have hac : Hid (((qs.take j).map nmV).length < 1000000) := hide (by rw [List.length_map, List.length_take]; omega)
                have hmm1 : Hid ((intOf (.int .i64 ((j : Int) + 1))).toNat = j + 1) := hide rfl
                have hmm2 : Hid ((intOf (.int .i64 (j : Int))).toNat = j) := hide rfl
                have wo : wrap64 (O + x1) = O + x1 := IntWalk.wrap64_in _ ⟨by omega, by omega⟩
                replace wo := hide wo
                clear hN hjn hjq hqe
                go_wp2_with fail
                refine (HN1.out _).mono ?_
                rintro e w8 ⟨rfl, hb8⟩
                have K8 := hide (step (next HB.out hb8) (.cells #[.int .i64 1, .int .i64 n1, .string no] 31))
                have R8 := hide ((HR.out.keep hb8).keep (step (Below.refl w8.heap.size w8) (.cells #[.int .i64 1, .int .i64 n1, .string no] 31)))
                have hB8 : Hid (wy.heap.size ≤ (w8.alloc (.cells #[.int .i64 1, .int .i64 n1, .string no] 31)).heap.size) := hide K8.out.size
                clear hb8 c0
                by_cases hnx : n1 = x1
                · have q2 : (n1 == x1) = true := by simp [hnx]
                  have HO2 : Hid (O + x1 = (cI x1 (qs.take (j + 1)) : Nat) * x1) := hide (by rw [hcs.out, if_pos hnx, HO.out]; exact ob_add _ _)
                  clear hnx
                  go_wp2_with (refine wpList_appV rfl _ _ rfl rfl rfl R8.out (nmV n1) (rg1 w8 n1 1) hac.out hB8.out ?_; intro v9 w9 g1 g2; rw [htk.out] at g1; have K9 := hide (bel_app K8.out hB8.out R8.out g2); have R9 := hide g1; obtain ⟨a9, n9, c9, rfl, hn9⟩ := g1.shapeN; replace hn9 := hide hn9; clear g1 g2 R8 K8 hB8; have c0 := hIs.out w9 K9.out)
                  refine ⟨⟨j + 1, _, hlt, rfl, rfl, R9, K9, hide (by first | exact HO2.out | (rw [wo.out]; exact HO2.out))⟩, ?_⟩
                  rw [hmm1.out, hmm2.out]; omega
                · have q2 : (n1 == x1) = false := by simp [hnx]
                  have HO2 : Hid (O = (cI x1 (qs.take (j + 1)) : Nat) * x1) := hide (by rw [hcs.out, if_neg hnx, Nat.add_zero]; exact HO.out)
                  clear hnx
                  go_wp2_with (refine wpList_appV rfl _ _ rfl rfl rfl R8.out (nmV n1) (rg1 w8 n1 1) hac.out hB8.out ?_; intro v9 w9 g1 g2; rw [htk.out] at g1; have K9 := hide (bel_app K8.out hB8.out R8.out g2); have R9 := hide g1; obtain ⟨a9, n9, c9, rfl, hn9⟩ := g1.shapeN; replace hn9 := hide hn9; clear g1 g2 R8 K8 hB8; have c0 := hIs.out w9 K9.out)
                  refine ⟨⟨j + 1, _, hlt, rfl, rfl, R9, K9, HO2⟩, ?_⟩
                  rw [hmm1.out, hmm2.out]; omega
              · obtain rfl : m = j := by omega
                have htq : Hid (qs.take m = qs) := hide (List.take_of_length_le (by rw [hql.out]; exact Nat.le_refl _))
                rw [htq.out] at HR HO
                have hnl2 : m = nl := by rw [hnl.out, htq.out, List.length_map, hql.out]
                subst hnl2
                rw [← HO.out] at R2
                rw [← hDe.out] at RP
                obtain ⟨wz, rfl⟩ : ∃ wz, wz = wr := ⟨_, rfl⟩
                have K8 := hide (next K7.out HB.out)
                have A8 := hide (A7.out.keep HB.out)
                have B8 := hide (B7.out.keep HB.out)
                have P8 := hide (P7.out.keep HB.out)
                have V8 := hide HR.out.vals
                clear K7 A7 B7 P7 I7 HB HR HO hnl hlt hj
                go_upto_region 47 with fail
                have s0 : wz.cell? ⟨XA, 0, none⟩ = some (.bool true) := A8.out.at' 0
                have s1 : wz.cell? ⟨XA, 1, none⟩ = some (.int .i64 0) := A8.out.at' 1
                have s2 : wz.cell? ⟨XA, 2, none⟩ = some (.int .i64 0) := A8.out.at' 2
                have s3 : wz.cell? ⟨XA, 3, none⟩ = some (.int .i64 ((m : Int) - 1)) := A8.out.at' 3
                have s4 : wz.cell? ⟨XA, 4, none⟩ = some (.int .i64 0) := A8.out.at' 4
                have s5 : wz.cell? ⟨XA, 5, none⟩ = some (.int .i64 0) := A8.out.at' 5
                have s6 : wz.cell? ⟨XA, 6, none⟩ = some (.int .i64 0) := A8.out.at' 6
                have s7 : wz.cell? ⟨XA, 7, none⟩ = some (.string no) := A8.out.at' 7
                have keyS : Hid (∀ w', Below wz.heap.size wz w' → (w'.cell? ⟨XA, 0, none⟩ = some (.bool true) ∧ w'.cell? ⟨XA, 1, none⟩ = some (.int .i64 0) ∧ w'.cell? ⟨XA, 2, none⟩ = some (.int .i64 0) ∧ w'.cell? ⟨XA, 3, none⟩ = some (.int .i64 ((m : Int) - 1)) ∧ w'.cell? ⟨XA, 4, none⟩ = some (.int .i64 0) ∧ w'.cell? ⟨XA, 5, none⟩ = some (.int .i64 0) ∧ w'.cell? ⟨XA, 6, none⟩ = some (.int .i64 0) ∧ w'.cell? ⟨XA, 7, none⟩ = some (.string no))) := hide (fun w' hb => ⟨keep1 hb s0, keep1 hb s1, keep1 hb s2, keep1 hb s3, keep1 hb s4, keep1 hb s5, keep1 hb s6, keep1 hb s7⟩)
                have HN3 := lnum_is x1
                go_cut [29, 30, 31] from 214 to 225 (fun c29 c30 c31 wx => ∃ (Bv : Nat) (ax : Option Addr) (cx : Nat), c29 = .pointer (some ⟨Bv, 0, none⟩) ∧ c30 = .slice ax m cx ∧ c31 = .bool true ∧ Hid (LkAt ((List.range m).map fun j : Nat => ((j : Int), (0 : Int))) 1 O no wz wx Bv (.slice ax m cx)))
                case first =>
                  go_region_held (fun w' => w'.cell? ⟨XA, 0, none⟩ = some (.bool true) ∧ w'.cell? ⟨XA, 1, none⟩ = some (.int .i64 0) ∧ w'.cell? ⟨XA, 2, none⟩ = some (.int .i64 0) ∧ w'.cell? ⟨XA, 3, none⟩ = some (.int .i64 ((m : Int) - 1)) ∧ w'.cell? ⟨XA, 4, none⟩ = some (.int .i64 0) ∧ w'.cell? ⟨XA, 5, none⟩ = some (.int .i64 0) ∧ w'.cell? ⟨XA, 6, none⟩ = some (.int .i64 0) ∧ w'.cell? ⟨XA, 7, none⟩ = some (.string no)) (first | (have hq := KR; refine keyS.out _ ?_; first | (with_reducible exact KR.out) | (with_reducible exact step KR.out _) | ((repeat (refine below_set ?_ (by first | exact Nat.le_refl _ | exact KN.out.size | exact Nat.le_succ_of_le KN.out.size | exact KR.out.size))); (with_reducible exact KR.out))) | (have hq := KN; refine keyS.out _ ?_; first | (with_reducible exact KN.out) | (with_reducible exact step KN.out _) | (with_reducible exact step (step KN.out _) _)) | go_keep) (first
                    | (have hq := KN; (with_reducible refine (R2.out _ _ ?_ al cl ?_).mono ?_); (· exact argsB2 (x := agC (m : Nat)) (y := agN x1) (by first | (with_reducible exact T9.Blk.new1 _ _ _ _) | (with_reducible exact (Blk.new _ _ _).alloc _) | (with_reducible exact Blk.new _ _ _))); (· exact V8.out.keep (by first | (with_reducible exact step (step KN.out _) _) | (with_reducible exact step KN.out _))); rintro e w8 ⟨a8, c8, rfl, r8, hb8⟩; have KR : Hid (Below wz.heap.size wz w8) := hide (next (by first | (with_reducible exact step (step KN.out _) _) | (with_reducible exact step KN.out _)) hb8); have R8 := hide r8; (try (have Z2 : Hid (Blk w8 wz.heap.size #[.int .i64 0, .int .i64 0, .string no] 31) := hide (T9.Blk.keep (Z1.out.alloc _) hb8); have z0 : w8.cell? ⟨wz.heap.size, 0, none⟩ = some (.int .i64 0) := Z2.out.at' 0; have z1 : w8.cell? ⟨wz.heap.size, 1, none⟩ = some (.int .i64 0) := Z2.out.at' 1; have z2 : w8.cell? ⟨wz.heap.size, 2, none⟩ = some (.string no) := Z2.out.at' 2; have zf := Z2.out.fr)); (try (have Y2 : Hid (Blk w8 w7.heap.size #[.int .i64 0, .int .i64 0, .string no] 31) := hide (T9.Blk.keep ((Blk.new w7 #[.int .i64 0, .int .i64 0, .string no] 31).alloc _) hb8); have z0 : w8.cell? ⟨w7.heap.size, 0, none⟩ = some (.int .i64 0) := Y2.out.at' 0; have z1 : w8.cell? ⟨w7.heap.size, 1, none⟩ = some (.int .i64 0) := Y2.out.at' 1; have z2 : w8.cell? ⟨w7.heap.size, 2, none⟩ = some (.string no) := Y2.out.at' 2; have zf := Y2.out.fr)); (try (have V2 : Hid (Blk w8 (w7.heap.size + 1) #[.int .i64 0, .int .i64 0, .string no] 31) := hide (T9.Blk.keep (T9.Blk.new1 w7 _ #[.int .i64 0, .int .i64 0, .string no] 31) hb8); have z0 : w8.cell? ⟨(w7.heap.size + 1), 0, none⟩ = some (.int .i64 0) := V2.out.at' 0; have z1 : w8.cell? ⟨(w7.heap.size + 1), 1, none⟩ = some (.int .i64 0) := V2.out.at' 1; have z2 : w8.cell? ⟨(w7.heap.size + 1), 2, none⟩ = some (.string no) := V2.out.at' 2; have zf := V2.out.fr)); clear r8 hb8)
                    | ((with_reducible refine (HN3.out _).mono ?_); rintro e w7 ⟨rfl, hb7⟩; have KN : Hid (Below wz.heap.size wz w7) := hide (next (by first | (with_reducible exact (Below.refl _ _).drew) | (with_reducible exact (step (Below.refl _ _) _).drew)) hb7); (try (have Z1 : Hid (Blk w7 wz.heap.size #[.int .i64 0, .int .i64 0, .string no] 31) := hide (T9.Blk.keep (drewB (Blk.new wz #[.int .i64 0, .int .i64 0, .string no] 31)) hb7))); clear hb7))
                  all_goals (go_wp2_with fail)
                  all_goals go_meet
                  all_goals (first
                    | (have hq9 := V2; exact ⟨_, _, _, rfl, rfl, rfl, hide (lk_b R8.out (Nat.le_trans KN.out.size (by simp; omega)) KR.out (((V2.out.set 0 (.int .i64 1)).set 1 (.int .i64 O)).set 2 (.string no)) ((((Chg.refl (· = w7.heap.size + 1) w8).set (w7.heap.size + 1) 0 (.int .i64 1) rfl).set (w7.heap.size + 1) 1 (.int .i64 O) rfl).set (w7.heap.size + 1) 2 (.string no) rfl) (Nat.le_succ_of_le KN.out.size) (by simp))⟩)
                    | (have hq9 := Y2; exact ⟨_, _, _, rfl, rfl, rfl, hide (lk_b R8.out (Nat.le_trans KN.out.size (by simp; omega)) KR.out (((Y2.out.set 0 (.int .i64 1)).set 1 (.int .i64 O)).set 2 (.string no)) ((((Chg.refl (· = w7.heap.size) w8).set (w7.heap.size) 0 (.int .i64 1) rfl).set (w7.heap.size) 1 (.int .i64 O) rfl).set (w7.heap.size) 2 (.string no) rfl) KN.out.size (by simp; omega))⟩)
                    | (have hq9 := Z2; exact ⟨_, _, _, rfl, rfl, rfl, hide (lk_b R8.out (Nat.le_trans KN.out.size (by simp; omega)) KR.out (((Z2.out.set 0 (.int .i64 1)).set 1 (.int .i64 O)).set 2 (.string no)) ((((Chg.refl (· = wz.heap.size) w8).set (wz.heap.size) 0 (.int .i64 1) rfl).set (wz.heap.size) 1 (.int .i64 O) rfl).set (wz.heap.size) 2 (.string no) rfl) (Nat.le_refl _) (by have := Z1.out.lt; simp; omega))⟩)
                    | (exact ⟨_, _, _, rfl, rfl, rfl, hide (lk_a R8.out (Nat.le_trans KN.out.size (by simp; omega)) KR.out)⟩))
                case rest =>
                  obtain ⟨Bv, ax, cx, rfl, rfl, rfl, hLk⟩ := hcut
                  obtain ⟨VB, RL, KL⟩ := hLk.out
                  obtain ⟨wd, rfl⟩ : ∃ wd, wd = wc := ⟨_, rfl⟩
                  have KD := hide (next K8.out KL)
                  have AD := hide (A8.out.keep KL)
                  have BD := hide (B8.out.keep KL)
                  have PD := hide (P8.out.keep KL)
                  have VD := hide VB
                  have RD := hide RL
                  clear VB RL KL hLk keyS s0 s1 s2 s3 s4 s5 s6 s7 HN3 K8 A8 B8 P8 V8 R2
                  have s0 : wd.cell? ⟨XA, 0, none⟩ = some (.bool true) := AD.out.at' 0
                  have s1 : wd.cell? ⟨XA, 1, none⟩ = some (.int .i64 0) := AD.out.at' 1
                  have s2 : wd.cell? ⟨XA, 2, none⟩ = some (.int .i64 0) := AD.out.at' 2
                  have s3 : wd.cell? ⟨XA, 3, none⟩ = some (.int .i64 ((m : Int) - 1)) := AD.out.at' 3
                  have s4 : wd.cell? ⟨XA, 4, none⟩ = some (.int .i64 0) := AD.out.at' 4
                  have s5 : wd.cell? ⟨XA, 5, none⟩ = some (.int .i64 0) := AD.out.at' 5
                  have s6 : wd.cell? ⟨XA, 6, none⟩ = some (.int .i64 0) := AD.out.at' 6
                  have s7 : wd.cell? ⟨XA, 7, none⟩ = some (.string no) := AD.out.at' 7
                  have t0 : wd.cell? ⟨(XA + 1), 0, none⟩ = some (.bool true) := BD.out.at' 0
                  have t1 : wd.cell? ⟨(XA + 1), 1, none⟩ = some (.int .i64 0) := BD.out.at' 1
                  have t2 : wd.cell? ⟨(XA + 1), 2, none⟩ = some (.int .i64 1) := BD.out.at' 2
                  have t3 : wd.cell? ⟨(XA + 1), 3, none⟩ = some (.int .i64 ((m : Int) - 1)) := BD.out.at' 3
                  have t4 : wd.cell? ⟨(XA + 1), 4, none⟩ = some (.int .i64 1) := BD.out.at' 4
                  have t5 : wd.cell? ⟨(XA + 1), 5, none⟩ = some (.int .i64 0) := BD.out.at' 5
                  have t6 : wd.cell? ⟨(XA + 1), 6, none⟩ = some (.int .i64 0) := BD.out.at' 6
                  have t7 : wd.cell? ⟨(XA + 1), 7, none⟩ = some (.string no) := BD.out.at' 7
                  have p5 := hide (PD.out.keep (step (Below.refl wd.heap.size wd) (.cells #[.bool true, .int .i64 0, .int .i64 0, .int .i64 ((m : Int) - 1), .int .i64 0, .int .i64 0, .int .i64 0, .string no, .bool true, .int .i64 0, .int .i64 1, .int .i64 ((m : Int) - 1), .int .i64 1, .int .i64 0, .int .i64 0, .string no] 41)))
                  have CP := hide (RP.out (wd.alloc (.cells #[.bool true, .int .i64 0, .int .i64 0, .int .i64 ((m : Int) - 1), .int .i64 0, .int .i64 0, .int .i64 0, .string no, .bool true, .int .i64 0, .int .i64 1, .int .i64 ((m : Int) - 1), .int .i64 1, .int .i64 0, .int .i64 0, .string no] 41)) wd.heap.size (argsB2 (x := agC (m : Nat)) (y := agB m) (Blk.new wd _ _)) ap cp p5.out)
                  have KE := hide (step KD.out (.cells #[.bool true, .int .i64 0, .int .i64 0, .int .i64 ((m : Int) - 1), .int .i64 0, .int .i64 0, .int .i64 0, .string no, .bool true, .int .i64 0, .int .i64 1, .int .i64 ((m : Int) - 1), .int .i64 1, .int .i64 0, .int .i64 0, .string no] 41))
                  have VE := hide (VD.out.alloc (.cells #[.bool true, .int .i64 0, .int .i64 0, .int .i64 ((m : Int) - 1), .int .i64 0, .int .i64 0, .int .i64 0, .string no, .bool true, .int .i64 0, .int .i64 1, .int .i64 ((m : Int) - 1), .int .i64 1, .int .i64 0, .int .i64 0, .string no] 41))
                  have RE := hide (RD.out.keep (step (Below.refl wd.heap.size wd) (.cells #[.bool true, .int .i64 0, .int .i64 0, .int .i64 ((m : Int) - 1), .int .i64 0, .int .i64 0, .int .i64 0, .string no, .bool true, .int .i64 0, .int .i64 1, .int .i64 ((m : Int) - 1), .int .i64 1, .int .i64 0, .int .i64 0, .string no] 41)))
                  clear p5
                  go_wp2_with fail
                  refine CP.out.mono ?_
                  rintro e w6 ⟨ak, ck, rfl, rk, hb6⟩
                  have KF := hide (step (next KE.out hb6) (vO 1 D no))
                  have VF := hide ((VE.out.keep hb6).alloc (vO 1 D no))
                  have RF := hide ((RE.out.keep hb6).keep (step (Below.refl w6.heap.size w6) (vO 1 D no)))
                  have KK := hide (rk.keep (step (Below.refl w6.heap.size w6) (vO 1 D no)))
                  have ZF := hide (Blk.new w6 #[.int .i64 1, .int .i64 D, .string no] 31)
                  clear hb6 rk KE VE RE CP KD AD BD PD VD RD RP s0 s1 s2 s3 s4 s5 s6 s7 t0 t1 t2 t3 t4 t5 t6 t7
                  go_upto_region 49 with fail
                  simp only [vO] at KF VF RF KK
                  obtain ⟨wg, hwg⟩ : ∃ wg, w6.alloc (.cells #[.int .i64 1, .int .i64 D, .string no] 31) = wg := ⟨_, rfl⟩
                  rw [hwg] at KF VF RF KK ZF
                  try rw [hwg]
                  clear hwg
                  obtain ⟨XZ, hXZ⟩ : ∃ XZ, w6.heap.size = XZ := ⟨_, rfl⟩
                  rw [hXZ] at ZF
                  try rw [hXZ]
                  clear hXZ
                  have v0 := cell_regrown (show wg.cell? ⟨Bv, 0, none⟩ = some (.int .i64 1) from VF.out.at' 0)
                  have v1 := cell_regrown (show wg.cell? ⟨Bv, 1, none⟩ = some (.int .i64 O) from VF.out.at' 1)
                  have v2 := cell_regrown (show wg.cell? ⟨Bv, 2, none⟩ = some (.string no) from VF.out.at' 2)
                  have z0 := cell_regrown (show wg.cell? ⟨XZ, 0, none⟩ = some (.int .i64 1) from ZF.out.at' 0)
                  have z1 := cell_regrown (show wg.cell? ⟨XZ, 1, none⟩ = some (.int .i64 D) from ZF.out.at' 1)
                  have z2 := cell_regrown (show wg.cell? ⟨XZ, 2, none⟩ = some (.string no) from ZF.out.at' 2)
                  have eO := va_neq1 O
                  have eD := va_neq1 D
                  have kq0 := fun d' os => Calls.regrown_of ((lnum_is O).out (grow (redrawn wg d') os))
                  have kq1 := fun d' os => Calls.regrown_of ((lnum_is D).out (grow (redrawn wg d') os))
                  refine wp_region_quiet_below (by kernel_rfl) (by kernel_rfl) ?_
                  repeat (go_big_quiet_step (first | (with_reducible exact kq0 _ _) | (with_reducible exact kq1 _ _)))
                  refine wpQuiet_nil ?_
                  intro wq hwq
                  have BQ : Hid (Below wg.heap.size wg wq) := hide (by obtain ⟨⟨dq, osq⟩, hq⟩ := hwq; rw [hq]; exact below_regrown _ dq osq)
                  have KG := hide (next KF.out BQ.out)
                  have RG := hide (RF.out.keep BQ.out)
                  have KH := hide (KK.out.keep BQ.out)
                  clear hwq v0 v1 v2 z0 z1 z2 eO eD kq0 kq1 BQ KF RF KK VF ZF
                  go_wp2_with fail
                  go_loopw [35] (fun i wr => ∃ j : Nat, j ≤ m ∧ i = .int .i64 (j : Int) ∧ Hid (Below wq.heap.size wq wr)) (fun i _ => m - (intOf i).toNat)
                  case atStart => exact ⟨0, Nat.zero_le _, rfl, hide (Below.refl _ _)⟩
                  case round =>
                    obtain ⟨j, hj, rfl, hB⟩ := hrel
                    by_cases hlt : j < m
                    · have q0 : (j : Int) < (m : Int) := by omega
                      obtain ⟨gl, rfl, hgl⟩ := RG.out.at (by simp; omega)
                      obtain ⟨gk, rfl, hgk⟩ := KH.out.at (by rw [prW_len]; omega)
                      have hs : ((List.range m).map fun j : Nat => ((j : Int), (0 : Int)))[j]? = some ((j : Int), (0 : Int)) := by rw [List.getElem?_map, List.getElem?_range hlt]; rfl
                      obtain ⟨hk0, hk1⟩ := prW_at m 0 j hlt
                      rw [Nat.zero_add] at hk0 hk1
                      have a0 := cell_regrown (keep1 hB.out (hgl j _ hs).1)
                      have a1 := cell_regrown (keep1 hB.out (hgl j _ hs).2)
                      have b0 := cell_regrown (keep1 hB.out (hgk _ _ hk0).1)
                      have b1 := cell_regrown (keep1 hB.out (hgk _ _ hk0).2)
                      have d0 := cell_regrown (keep1 hB.out (hgk _ _ hk1).1)
                      have d1 := cell_regrown (keep1 hB.out (hgk _ _ hk1).2)
                      simp only at a0 a1 b0 b1 d0 d1
                      have eS := sp_neqE (j : Int) 0
                      have eT := sp_neqE (j : Int) 1
                      have j3 : (j : Int) < 300 := by omega
                      have hmm1 : Hid ((intOf (.int .i64 ((j : Int) + 1))).toNat = j + 1) := hide rfl
                      have hmm2 : Hid ((intOf (.int .i64 (j : Int))).toNat = j) := hide rfl
                      clear hgl hgk hs hk0 hk1
                      go_upto_region 54 with fail
                      refine wp_region_quiet_below (by kernel_rfl) (by kernel_rfl) ?_
                      repeat (go_big_quiet_step (fail))
                      refine wpQuiet_nil ?_
                      intro q1 hwq
                      have B1 : Hid (Below wr.heap.size wr q1) := hide (by obtain ⟨⟨dq, osq⟩, hq⟩ := hwq; rw [hq]; exact below_regrown _ dq osq)
                      have B2 := hide (next hB.out B1.out)
                      clear hwq a0 a1 b0 b1 d0 d1 eS eT B1
                      go_wp2_with fail
                      refine ⟨⟨j + 1, hlt, rfl, B2⟩, ?_⟩
                      rw [hmm1.out, hmm2.out]; omega
                    · obtain rfl : m = j := by omega
                      have KE := hide (next KG.out hB.out)
                      clear hB
                      go_wp2_with fail
                      go_ret
                      exact ⟨rfl, KE.out⟩
end Go.Proofs.YtnpdkojhlgchlaaGreatDoor
