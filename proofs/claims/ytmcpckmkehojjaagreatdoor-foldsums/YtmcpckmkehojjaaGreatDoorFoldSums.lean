/- FoldSums: SUM wants the places of a column in row order and ends with their sum, or at once where it leaves 64 bits. Proved of the Go text. -/
import Derived.Test.YtmcpckmkehojjaaGreatDoorSumM15
namespace Go.Proofs.YtmcpckmkehojjaaGreatDoor
open Go.RowKit Go.Sort
open T9 (Blk Chg)
set_option linter.unusedVariables false

theorem args1 (w : World) (x : Ag) : ArgsAt (w.alloc (agO x)) (· < (w.alloc (agO x)).heap.size) (some ⟨w.heap.size, 0, none⟩) [x] := by
  have hb := Blk.new w #[.bool x.is, .int .i64 x.t, .int .i64 x.l, .int .i64 x.b, .int .i64 x.r, .int .i64 x.v.k, .int .i64 x.v.i, .string x.v.t] 41
  refine .inr ⟨_, _, rfl, by simp, fun j z hz i v hv => ?_⟩
  rw [hb.at']
  match j, hz with
  | 0, hz => obtain rfl : x = z := by simpa using hz
             match i, hv with
             | 0, hv | 1, hv | 2, hv | 3, hv | 4, hv | 5, hv | 6, hv | 7, hv => exact hv
             | i + 8, hv => simp at hv
theorem flP_at : ∀ (L : List (Int × Int)) (j : Nat) (x : Int × Int), L[j]? = some x → (flP L)[j * 2]? = some (.int .i64 x.1) ∧ (flP L)[j * 2 + 1]? = some (.int .i64 x.2)
  | [], j, x, h => by simp at h
  | y :: L, 0, x, h => by obtain rfl : y = x := by simpa using h
                          exact ⟨rfl, rfl⟩
  | y :: L, j + 1, x, h => by
    have ih := flP_at L j x (by simpa using h)
    have e : flP (y :: L) = spL y ++ flP L := by simp [flP]
    rw [e, show (j + 1) * 2 = 2 + j * 2 by omega]
    refine ⟨?_, ?_⟩
    · rw [List.getElem?_append_right (by simp)]; simpa using ih.1
    · rw [List.getElem?_append_right (by simp; omega)]; simp only [List.length_cons, List.length_nil]; rw [show 2 + j * 2 + 1 - (0 + 1 + 1) = j * 2 + 1 by omega]; exact ih.2
theorem RowP.at {w : World} {B : Nat} {a : Option Addr} {n cap : Nat} {L : List (Int × Int)} (h : RowP w B (.slice a n cap) L) (hL : 0 < L.length) : ∃ g, a = some ⟨g, 0, none⟩ ∧ ∀ (j : Nat) (x : Int × Int), L[j]? = some x → w.cell? ⟨g, j * 2, none⟩ = some (.int .i64 x.1) ∧ w.cell? ⟨g, j * 2 + 1, none⟩ = some (.int .i64 x.2) := by
  rcases h.2 with ⟨hv, h2⟩ | ⟨g, cap', cur, hv, _, hr, _, _, _, ht⟩
  · omega
  · simp only [Value.slice.injEq] at hv
    obtain ⟨rfl, _, _⟩ := hv
    refine ⟨g, rfl, fun j x hx => ?_⟩
    obtain ⟨c0, c1⟩ := flP_at L j x hx
    have hcell : ∀ (o : Nat) (u : Value), (flP L)[o]? = some u → w.cell? ⟨g, o, none⟩ = some u := fun o u hu => by
      rw [cell_of_row w g o cur _ (0, 0) hr, ← Array.getElem?_toList]
      rw [← ht, List.getElem?_take] at hu
      split at hu
      · exact hu
      · cases hu
    exact ⟨hcell _ _ c0, hcell _ _ c1⟩
/-- What column answers, and run behind it. -/
structure ColRun (ns : List Int) (a : Option Addr) (cap len : Nat) : Prop where
  col : ∀ w, IntsAt w a ns → Calls Tryz.prog 11 #[.slice a len cap] w fun e w' => ∃ v, e = .returned (.tuple #[.slice a ns.length cap, v, agV (agC (ns.length : Nat))]) ∧ RowV w' (w.heap.size + 1) v (ns.map nmV) ∧ Below w.heap.size w w'
theorem run_sum (ns : List Int) (h1 : 1 ≤ ns.length) (h3 : ns.length ≤ 300) (hb : ∀ x ∈ ns, -9223372036854775808 ≤ x ∧ x ≤ 9223372036854775807) (w : World) (av : Option Addr) (capv : Nat) (hv : ValsAt w av (ns.map nmV)) :
    Calls Tryz.prog 12 #[.int .i64 54, .slice (some ⟨w.heap.size, 0, none⟩) 1 1, .slice av ns.length capv] (w.alloc (agO (agC (ns.length : Nat)))) fun e w' => ∃ v, e = .returned (.tuple #[(endU (addU ns 0 0)).v, v, .bool true]) ∧ RowP w' (w.heap.size + 1 + 1) v ((List.range (addU ns 0 0).2.2).map fun j : Nat => ((j : Int), (0 : Int))) ∧ Below w.heap.size w w' := by
  obtain ⟨nm, hnm⟩ := nmb_ex
  have hok : AgOk (agC (ns.length : Nat)) := agC_ok _ (by omega) (by omega)
  have hb1 := begin_ok 54 _ 0 _ _ lastS (sum_mkis nm hnm) _ _ _ info54 idx54 [agC (ns.length : Nat)] (by simp) (by simp) (by simp) (.inr rfl) (fun a ha => by rcases List.mem_cons.1 ha with rfl | ha; exact hok; cases ha) (some ⟨w.heap.size, 0, none⟩) 1 ((w.alloc (agO (agC (ns.length : Nat)))).alloc (vO 0 0 no)) (args_below (args1 w _) (step (Below.refl _ _) _))
  have := run_any 54 (goOn (givN nm sumT) lastS [agC (ns.length : Nat)] 0 0) (goOn_plain _ _ _ _ _) _ _ lastS (givN_nb sumT_nb) (celN_nb sumT_nb) (some ⟨w.heap.size, 0, none⟩) 1 1 (w.alloc (agO (agC (ns.length : Nat)))) hb1 (ns.map nmV) (fun x hx => by obtain ⟨n, hn, rfl⟩ := List.mem_map.1 hx; exact va_int n (hb n hn).1 (hb n hn).2) (by rw [List.length_map]; omega) av capv (hv.keep (step (Below.refl _ _) _)) _ _ (rn_sum nm ns h1 h3)
  rw [List.length_map] at this
  refine this.mono fun e w' ⟨v, g1, g2, g3⟩ => ⟨v, g1, by simpa using g2, ?_⟩
  exact next (step (Below.refl w.heap.size w) _) g3
theorem sp_neq (q : Int) (w : World) : (binOp .neq 50 (.agg #[.int .i64 q, .int .i64 0]) (.agg #[.int .i64 q, .int .i64 0])).run Tryz.prog w = .ok (.bool false) w := by go_simp
theorem va_eq1 (k i : Int) (t : ByteArray) (w : World) : (binOp .eql 31 (vV k i t) (vV k i t)).run Tryz.prog w = .ok (.bool true) w := by go_simp
set_option maxHeartbeats 8000000 in
set_option maxRecDepth 100000 in
theorem fs_walk (ns : List Int) (a : Option Addr) (cap len : Nat) (HCR : ColRun ns a cap len) (h3 : ns.length ≤ 300) (hbd : ∀ x ∈ ns, -9223372036854775808 ≤ x ∧ x ≤ 9223372036854775807) (w : World) (h : IntsAt w a ns) : Calls Tryz.prog 4 #[.slice a len cap] w fun e w' => e = .returned (.bool true) ∧ Below w.heap.size w w' := by
  obtain ⟨m, hm⟩ : ∃ m, ns.length = m := ⟨_, rfl⟩
  have HC := HCR.col
  rw [hm] at h3 HC
  replace HC := hide HC
  replace h := hide h
  have HRun : Hid (1 ≤ m → ∀ w av capv, ValsAt w av (ns.map nmV) → Calls Tryz.prog 12 #[.int .i64 54, .slice (some ⟨w.heap.size, 0, none⟩) 1 1, .slice av m capv] (w.alloc (agO (agC (m : Nat)))) fun e w' => ∃ v, e = .returned (.tuple #[(endU (addU ns 0 0)).v, v, .bool true]) ∧ RowP w' (w.heap.size + 1 + 1) v ((List.range (addU ns 0 0).2.2).map fun j : Nat => ((j : Int), (0 : Int))) ∧ Below w.heap.size w w') := hide (fun h1 w av capv hv => by have := run_sum ns (by omega) (by omega) hbd w av capv hv; rw [hm] at this; exact this)
  replace hbd := hide hbd
  clear HCR
  go_enter Tryz.func4, Tryz.ntmps4
  go_wp2_with fail
  refine (begun15.out _).mono ?_
  rintro e w1 ⟨rfl, hb1⟩
  have K1 := hide (next (Below.refl w.heap.size w) hb1)
  have h1 := hide (h.out.keep hb1)
  clear hb1
  go_wp2_with fail
  refine (HC.out _ h1.out).mono ?_
  rintro e w2 ⟨v, rfl, hv, hb2⟩
  obtain ⟨av, nv, cv, rfl, hnv⟩ := hv.shapeN
  rw [List.length_map, hm] at hnv
  have hnv' := hnv.symm
  subst hnv'
  clear hnv
  have K2 := hide (step (next K1.out hb2) (agO (agC (m : Nat))))
  have h2 := hide ((h1.out.keep hb2).keep (step (Below.refl _ _) (agO (agC (m : Nat)))))
  have hvv := hide (hv.vals.keep (step (Below.refl _ _) (agO (agC (m : Nat)))))
  replace hm := hide hm
  clear hb2 hv h1 h
  by_cases h0 : m = 0
  · subst h0
    go_wp2_with fail
    go_ret
    exact ⟨rfl, K2.out⟩
  · have p0 : ((m : Int) == 0) = false := by simp; omega
    have hrun := hide (HRun.out (by omega) (w2.alloc (agO (agC (m : Nat)))) av cv hvv.out)
    simp only [World.size_alloc] at hrun
    clear HRun h0
    go_wp2_with fail
    refine hrun.out.mono ?_
    rintro e w3 ⟨v3, rfl, hr3, hb3'⟩
    have hb3 : Below (w2.alloc (agO (agC (m : Nat)))).heap.size (w2.alloc (agO (agC (m : Nat)))) w3 := by rw [World.size_alloc]; exact hb3'
    clear hb3'
    generalize hend : endU (addU ns 0 0) = en
    obtain ⟨e0, e1, e2⟩ := en
    replace hend := hide hend
    obtain ⟨al, nl, cl, rfl, hnl⟩ := hr3.shapeN
    simp only [List.length_map, List.length_range] at hnl
    replace hnl := hide hnl
    have K3 := hide (step (next K2.out hb3) (vO e0 e1 e2))
    have h4 := hide ((h2.out.keep hb3).keep (step (Below.refl _ _) (vO e0 e1 e2)))
    have hr := hide (hr3.keep (step (Below.refl w3.heap.size w3) (vO e0 e1 e2)))
    have hV := hide (Blk.new w3 #[.int .i64 e0, .int .i64 e1, .string e2] 31)
    clear hb3 hr3 hvv h2 hrun K1 K2
    obtain ⟨X, hX⟩ : ∃ X, w3.heap.size = X := ⟨_, rfl⟩
    go_upto_region 7 with fail
    rw [hX] at hV
    clear hX
    obtain ⟨wf, hwf⟩ : ∃ wf, w3.alloc (.cells #[.int .i64 e0, .int .i64 e1, .string e2] 31) = wf := ⟨_, rfl⟩
    simp only [vO] at K3 h4 hr
    rw [hwf] at K3 h4 hr hV ⊢
    have KF := K3
    clear hwf K3
    go_wp2_with fail
    go_loopw [8, 9, 10, 11] (fun sm ft n i wr => wf = wr ∧ ∃ (j : Nat) (s : Int) (ok : Bool), j ≤ m ∧ sm = .int .i64 s ∧ ft = .bool ok ∧ n = .int .i64 (j : Int) ∧ i = .int .i64 (j : Int) ∧ Hid (if ok then addU ns 0 0 = addU (ns.drop j) s j ∧ -9223372036854775808 ≤ s ∧ s ≤ 9223372036854775807 else addU ns 0 0 = (s, false, j))) (fun _ _ _ i _ => m - (intOf i).toNat)
    case atStart => exact ⟨rfl, 0, 0, true, Nat.zero_le _, rfl, rfl, rfl, rfl, hide (by simp)⟩
    case round =>
      obtain ⟨rfl, j, s, ok, hj, rfl, rfl, rfl, rfl, hinv⟩ := hrel
      cases ok with
      | false =>
        have hp : Hid (addU ns 0 0 = (s, false, j)) := hide (by simpa using hinv.out)
        clear hinv
        by_cases hlt : (j : Int) < (m : Int)
        · skip
          have hen : (⟨e0, e1, e2⟩ : Va) = endU (addU ns 0 0) := hend.out.symm
          rw [hp.out] at hen
          obtain ⟨rfl, rfl, rfl⟩ : e0 = 4 ∧ e1 = 2 ∧ e2 = no := by simpa [endU] using hen
          have hnl' : nl = j := by have := hnl.out; rw [hp.out] at this; simpa using this
          subst hnl'
          have hrow := hr.out
          rw [hp.out] at hrow
          replace hrow := hide hrow
          clear hen
          go_wp2_with fail
          go_loopw [12] (fun v wr => wf = wr ∧ ∃ q : Nat, q ≤ nl ∧ v = .int .i64 (q : Int)) (fun v _ => nl - (intOf v).toNat)
          case atStart => exact ⟨rfl, 0, Nat.zero_le _, rfl⟩
          case round =>
            obtain ⟨rfl, q, hq, rfl⟩ := hrel
            by_cases hlt2 : q < nl
            · have p5 : (q : Int) < (nl : Int) := by omega
              obtain ⟨g, rfl, hg⟩ := hrow.out.at (by simp; omega)
              obtain ⟨c0, c1⟩ := hg q ((q : Int), 0) (by rw [List.getElem?_map, List.getElem?_range hlt2]; rfl)
              simp only at c0 c1
              have hnq := sp_neq (q : Int)
              clear hg
              go_wp2_with fail
              refine ⟨⟨trivial, q + 1, hlt2, rfl⟩, ?_⟩
              have h1 : (intOf (.int .i64 ((q : Int) + 1))).toNat = q + 1 := rfl
              have h2 : (intOf (.int .i64 (q : Int))).toNat = q := rfl
              rw [h1, h2]
              omega
            · obtain rfl : q = nl := by omega
              have v0 : wf.cell? ⟨X, 0, none⟩ = some (.int .i64 4) := hV.out.at' 0
              have v1 : wf.cell? ⟨X, 1, none⟩ = some (.int .i64 2) := hV.out.at' 1
              have v2 : wf.cell? ⟨X, 2, none⟩ = some (.string no) := hV.out.at' 2
              have heq := va_eq1 4 2 no
              go_wp2_with fail
              go_ret
              exact ⟨rfl, KF.out⟩
        · skip
          have hen : (⟨e0, e1, e2⟩ : Va) = endU (addU ns 0 0) := hend.out.symm
          rw [hp.out] at hen
          obtain ⟨rfl, rfl, rfl⟩ : e0 = 4 ∧ e1 = 2 ∧ e2 = no := by simpa [endU] using hen
          have hnl' : nl = j := by have := hnl.out; rw [hp.out] at this; simpa using this
          subst hnl'
          have hrow := hr.out
          rw [hp.out] at hrow
          replace hrow := hide hrow
          clear hen
          go_wp2_with fail
          go_loopw [12] (fun v wr => wf = wr ∧ ∃ q : Nat, q ≤ nl ∧ v = .int .i64 (q : Int)) (fun v _ => nl - (intOf v).toNat)
          case atStart => exact ⟨rfl, 0, Nat.zero_le _, rfl⟩
          case round =>
            obtain ⟨rfl, q, hq, rfl⟩ := hrel
            by_cases hlt2 : q < nl
            · have p5 : (q : Int) < (nl : Int) := by omega
              obtain ⟨g, rfl, hg⟩ := hrow.out.at (by simp; omega)
              obtain ⟨c0, c1⟩ := hg q ((q : Int), 0) (by rw [List.getElem?_map, List.getElem?_range hlt2]; rfl)
              simp only at c0 c1
              have hnq := sp_neq (q : Int)
              clear hg
              go_wp2_with fail
              refine ⟨⟨trivial, q + 1, hlt2, rfl⟩, ?_⟩
              have h1 : (intOf (.int .i64 ((q : Int) + 1))).toNat = q + 1 := rfl
              have h2 : (intOf (.int .i64 (q : Int))).toNat = q := rfl
              rw [h1, h2]
              omega
            · obtain rfl : q = nl := by omega
              have v0 : wf.cell? ⟨X, 0, none⟩ = some (.int .i64 4) := hV.out.at' 0
              have v1 : wf.cell? ⟨X, 1, none⟩ = some (.int .i64 2) := hV.out.at' 1
              have v2 : wf.cell? ⟨X, 2, none⟩ = some (.string no) := hV.out.at' 2
              have heq := va_eq1 4 2 no
              go_wp2_with fail
              go_ret
              exact ⟨rfl, KF.out⟩
      | true =>
        obtain ⟨hi1, hi2, hi3⟩ : addU ns 0 0 = addU (ns.drop j) s j ∧ -9223372036854775808 ≤ s ∧ s ≤ 9223372036854775807 := by simpa using hinv.out
        clear hinv
        by_cases hlt : j < m
        · have p1 : (j : Int) < (m : Int) := by omega
          have hj' : j < ns.length := by have := hm.out; omega
          obtain ⟨b, o, rfl, ho⟩ : ∃ b o, a = some ⟨b, o, none⟩ ∧ ∀ (j : Nat) (x : Int), ns[j]? = some x → wf.cell? ⟨b, o + j, none⟩ = some (.int .i64 x) := by
            rcases h4.out with h | h
            · rw [h] at hj'; cases hj'
            · exact h
          have a0 := ho j _ (List.getElem?_eq_getElem hj')
          have hbx := hbd.out _ (List.getElem_mem hj')
          rw [List.drop_eq_getElem_cons hj', addU] at hi1
          generalize ns[j] = x at *
          clear ho hj'
          by_cases hF : Fit s x
          · rw [if_pos hF] at hi1
            have HA := hide (fun w => add64_yes s x w hi2 hi3 hbx.1 hbx.2 hF.1 hF.2)
            have hinv : Hid (addU ns 0 0 = addU (ns.drop (j + 1)) (s + x) (j + 1) ∧ -9223372036854775808 ≤ s + x ∧ s + x ≤ 9223372036854775807) := hide ⟨hi1, hF⟩
            generalize s + x = z at *
            clear hi1 hi2 hi3 hbx hF
            go_wp2_with fail
            refine (HA.out _).mono ?_
            rintro e w9 ⟨rfl, rfl⟩
            go_wp2_with fail
            refine ⟨⟨trivial, j + 1, z, true, hlt, rfl, rfl, rfl, rfl, hide (by simpa using hinv.out)⟩, ?_⟩
            have h1 : (intOf (.int .i64 ((j : Int) + 1))).toNat = j + 1 := rfl
            have h2 : (intOf (.int .i64 (j : Int))).toNat = j := rfl
            rw [h1, h2]
            omega
          · rw [if_neg hF] at hi1
            have HA := hide (fun w => add64_no s x w hi2 hi3 hbx.1 hbx.2 (by unfold Fit at hF; omega))
            replace hi1 := hide hi1
            clear hi2 hi3 hbx hF
            go_wp2_with fail
            refine (HA.out _).mono ?_
            rintro e w9 ⟨rfl, rfl⟩
            go_wp2_with fail
            refine ⟨⟨trivial, j + 1, 0, false, hlt, rfl, rfl, rfl, rfl, hide (by simpa using hi1.out)⟩, ?_⟩
            have h1 : (intOf (.int .i64 ((j : Int) + 1))).toNat = j + 1 := rfl
            have h2 : (intOf (.int .i64 (j : Int))).toNat = j := rfl
            rw [h1, h2]
            omega
        · obtain rfl : m = j := by omega
          have hp : Hid (addU ns 0 0 = (s, true, m)) := hide (by rw [hi1, List.drop_eq_nil_of_le (by have := hm.out; omega), addU])
          clear hi1 hi2 hi3
          have hen : (⟨e0, e1, e2⟩ : Va) = endU (addU ns 0 0) := hend.out.symm
          rw [hp.out] at hen
          obtain ⟨rfl, rfl, rfl⟩ : e0 = 1 ∧ e1 = s ∧ e2 = no := by simpa [endU] using hen
          have hnl' : nl = m := by have := hnl.out; rw [hp.out] at this; simpa using this
          subst hnl'
          have hrow := hr.out
          rw [hp.out] at hrow
          replace hrow := hide hrow
          clear hen
          go_wp2_with fail
          go_loopw [12] (fun v wr => wf = wr ∧ ∃ q : Nat, q ≤ nl ∧ v = .int .i64 (q : Int)) (fun v _ => nl - (intOf v).toNat)
          case atStart => exact ⟨rfl, 0, Nat.zero_le _, rfl⟩
          case round =>
            obtain ⟨rfl, q, hq, rfl⟩ := hrel
            by_cases hlt2 : q < nl
            · have p5 : (q : Int) < (nl : Int) := by omega
              obtain ⟨g, rfl, hg⟩ := hrow.out.at (by simp; omega)
              obtain ⟨c0, c1⟩ := hg q ((q : Int), 0) (by rw [List.getElem?_map, List.getElem?_range hlt2]; rfl)
              simp only at c0 c1
              have hnq := sp_neq (q : Int)
              clear hg
              go_wp2_with fail
              refine ⟨⟨trivial, q + 1, hlt2, rfl⟩, ?_⟩
              have h1 : (intOf (.int .i64 ((q : Int) + 1))).toNat = q + 1 := rfl
              have h2 : (intOf (.int .i64 (q : Int))).toNat = q := rfl
              rw [h1, h2]
              omega
            · obtain rfl : q = nl := by omega
              have v0 : wf.cell? ⟨X, 0, none⟩ = some (.int .i64 1) := hV.out.at' 0
              have v1 : wf.cell? ⟨X, 1, none⟩ = some (.int .i64 e1) := hV.out.at' 1
              have v2 : wf.cell? ⟨X, 2, none⟩ = some (.string no) := hV.out.at' 2
              have heq := va_eq1 1 e1 no
              go_upto_region 22 with fail
              replace v0 := cell_regrown v0
              replace v1 := cell_regrown v1
              replace v2 := cell_regrown v2
              have kq0 := fun d' os => Calls.regrown_of ((lnum_is e1).out (grow (redrawn wf d') os))
              refine wp_region_quiet_below (by kernel_rfl) (by kernel_rfl) ?_
              repeat (go_big_quiet_step (first | (with_reducible exact kq0 _ _)))
              refine wpQuiet_nil ?_
              intro wq hwq
              have hbq : Below wf.heap.size wf wq := by obtain ⟨⟨dq, osq⟩, hq⟩ := hwq; rw [hq]; exact below_regrown _ dq osq
              clear hwq v0 v1 v2 kq0
              go_wp2_with fail
              go_ret
              exact ⟨rfl, next KF.out hbq⟩
end Go.Proofs.YtmcpckmkehojjaaGreatDoor
