/- FoldOrder: what goes through all wants the places of all areas from the left, each in row order, and ends with how many there were. Proved of the Go text. -/
import Derived.Test.YtchphbclaapfhaaGreatDoorBad15
import Derived.Test.YtchphbclaapfhaaGreatDoorAt3
import Derived.Test.YtchphbclaapfhaaGreatDoorRunM15
namespace Go.Proofs.YtchphbclaapfhaaGreatDoor
open Go.RowKit Go.Sort
open T9 (Blk Chg)
set_option linter.unusedVariables false
set_option linter.unusedSimpArgs false

theorem info57 : CallIs 20 #[.int .i64 57] (.tuple #[.agg #[.string ⟨#[67, 79, 85, 78, 84, 65]⟩, .int .i64 6, .int .i64 1, .int .i64 (-1)], .int .i64 0]) := fun w => by
  have h := T9.info_yes 56 (by decide) w
  have e : T9.tab[56]'(by rw [T9.tab_len]; decide) = (⟨#[67, 79, 85, 78, 84, 65]⟩, 1, -1) := by
    have : T9.tab[56]? = some (⟨#[67, 79, 85, 78, 84, 65]⟩, 1, -1) := by kernel_rfl
    exact (List.getElem?_eq_some_iff.1 this).2
  rw [e] at h
  exact h
theorem idx57 (w : World) : (Instr.index 72 (.agg fcatC) (.int .i64 57)).run Tryz.prog w = .ok (.func (.func 34) #[] #[]) w := index77 3 _ rfl w
theorem info58 : CallIs 20 #[.int .i64 58] (.tuple #[.agg #[.string ⟨#[67, 79, 85, 78, 84, 66, 76, 65, 78, 75]⟩, .int .i64 6, .int .i64 1, .int .i64 (-1)], .int .i64 0]) := fun w => by
  have h := T9.info_yes 57 (by decide) w
  have e : T9.tab[57]'(by rw [T9.tab_len]; decide) = (⟨#[67, 79, 85, 78, 84, 66, 76, 65, 78, 75]⟩, 1, -1) := by
    have : T9.tab[57]? = some (⟨#[67, 79, 85, 78, 84, 66, 76, 65, 78, 75]⟩, 1, -1) := by kernel_rfl
    exact (List.getElem?_eq_some_iff.1 this).2
  rw [e] at h
  exact h
theorem idx58 (w : World) : (Instr.index 72 (.agg fcatC) (.int .i64 58)).run Tryz.prog w = .ok (.func (.func 35) #[] #[]) w := index77 4 _ rfl w
theorem wantL_app : ∀ (xs ys : List Ag), wantL (xs ++ ys) = wantL xs ++ wantL ys
  | [], ys => rfl
  | a :: r, ys => by rw [List.cons_append, wantL, wantL, wantL_app r ys, List.append_assoc]
theorem cntG_app (pf : Va → Bool) : ∀ (xs ys : List Ag), cntG pf (xs ++ ys) = cntG pf xs + cntG pf ys
  | [], ys => by simp [cntG]
  | a :: r, ys => by rw [List.cons_append, cntG, cntG, cntG_app pf r ys]; omega
theorem wantL_snoc (xs : List Ag) (j : Nat) (h : j < xs.length) : wantL (xs.take (j + 1)) = wantL (xs.take j) ++ (if xs[j].is then (List.range xs[j].many).map (plc xs[j]) else []) := by
  rw [List.take_succ_eq_append_getElem h, wantL_app]; simp [wantL]
theorem cntG_snoc (pf : Va → Bool) (xs : List Ag) (j : Nat) (h : j < xs.length) : cntG pf (xs.take (j + 1)) = cntG pf (xs.take j) + (if xs[j].is then 0 else if pf xs[j].v then 1 else 0) := by
  rw [List.take_succ_eq_append_getElem h, cntG_app]; simp [cntG]
theorem cntG_le (pf : Va → Bool) : ∀ xs : List Ag, cntG pf xs ≤ xs.length
  | [] => Nat.le_refl _
  | a :: r => by rw [cntG, List.length_cons]; have := cntG_le pf r; split <;> (try split) <;> omega
theorem cntG_two : ∀ xs : List Ag, cntG (fun x => !(x.k == 0)) xs + cntG (fun x => x.k == 0) xs = cntG (fun _ => true) xs
  | [] => rfl
  | a :: r => by
    have := cntG_two r
    simp only [cntG]
    cases ha : a.is <;> by_cases hk : a.v.k = 0 <;> simp [hk] <;> omega
theorem wantL_len : ∀ xs : List Ag, (∀ x ∈ xs, x.is = true → AgOk x) → (wantL xs).length ≤ xs.length * 4096
  | [], _ => Nat.zero_le _
  | a :: r, h => by
    have ih := wantL_len r (fun x hx => h x (List.mem_cons_of_mem _ hx))
    rw [wantL, List.length_append, List.length_cons]
    cases ha : a.is with
    | false => simp only [Bool.false_eq_true, if_false, List.length_nil]; omega
    | true =>
      have := h a (List.mem_cons_self ..) ha
      unfold AgOk at this
      rw [if_pos ha] at this
      have h2 := this.2
      simp only [if_true, List.length_map, List.length_range]
      omega
theorem plc_int (t l b r : Int) (v : Va) (hl : 0 ≤ l ∧ l ≤ r) (k : Nat) : plc ⟨true, t, l, b, r, v⟩ k = (t + (k : Int) / (r - l + 1), l + (k : Int) % (r - l + 1)) := by
  unfold plc Ag.cols
  have e : (((r - l + 1).toNat : Nat) : Int) = r - l + 1 := Int.toNat_of_nonneg (by omega)
  rw [Int.natCast_ediv, Int.natCast_emod, e]
theorem many_int (t l b r : Int) (v : Va) (h : t ≤ b ∧ l ≤ r) : (((⟨true, t, l, b, r, v⟩ : Ag).many : Nat) : Int) = (b - t + 1) * (r - l + 1) := by
  show (((b - t + 1).toNat * (r - l + 1).toNat : Nat) : Int) = _
  rw [Int.natCast_mul, Int.toNat_of_nonneg (by omega), Int.toNat_of_nonneg (by omega)]
/-- Run over any arguments that may be. -/
theorem run_ord (fI : Int) (fn : Nat) (pf : Va → Bool) (MK : MkIs fn (0 : Int) (cntT pf) (cntT pf) lastN) (nm : ByteArray) (HI : CallIs 20 #[.int .i64 fI] (.tuple #[.agg #[.string nm, .int .i64 6, .int .i64 1, .int .i64 (-1)], .int .i64 0])) (HX : ∀ w, (Instr.index 72 (.agg fcatC) (.int .i64 fI)).run Tryz.prog w = .ok (.func (.func fn) #[] #[]) w) (c0 : Bool) (hc : pf ⟨1, 0, no⟩ = c0)
    (xs : List Ag) (h1 : 0 < xs.length) (h2 : xs.length ≤ 20) (hok : ∀ a ∈ xs, AgOk a) (hw : (wantL xs).length ≤ 69000) (w : World) (a : Option Addr) (cap : Nat) (h : ArgsAt w (· < w.heap.size) a xs) :
    Calls Tryz.prog 11 #[.int .i64 fI, .slice a xs.length cap, .slice none 0 0] w fun e w' => ∃ v, e = .returned (.tuple #[vV 1 (((if c0 then (wantL xs).length else 0) + cntG pf xs : Nat) : Int) no, v, .bool true]) ∧ RowP w' (w.heap.size + 1) v (wantL xs) ∧ Below w.heap.size w w' := by
  have hb1 := begin_ok fI fn 0 (cntT pf) (cntT pf) lastN MK nm 1 (-1) HI HX xs h1 (by omega) (by omega) (.inr rfl) hok a cap (w.alloc (vO 0 0 no)) (args_below h (step (Below.refl _ _) _))
  have hr := rn_args pf c0 hc xs 0 70000 0 (by omega) (by omega) (by omega)
  rw [Int.zero_add] at hr
  exact run_any fI (goOn (cntT pf) lastN xs 0 0) (goOn_plain _ _ _ _ _) (cntT pf) (cntT pf) lastN MK.nbG MK.nbC a xs.length cap w hb1 [] (fun x hx => by cases hx) (by simp) none 0 (.inl rfl) _ _ hr
theorem run_obad (fI : Int) (nm : ByteArray) (HI : CallIs 20 #[.int .i64 fI] (.tuple #[.agg #[.string nm, .int .i64 6, .int .i64 1, .int .i64 (-1)], .int .i64 0])) (xs : List Ag) (h1 : 0 < xs.length) (h2 : xs.length ≤ 20) (hok : ∀ a ∈ xs, AgOk a ∨ (a.is = false ∧ ¬ Good a.v.k a.v.i a.v.t)) (hbad : ∃ a ∈ xs, a.is = false ∧ ¬ Good a.v.k a.v.i a.v.t) (w : World) (a : Option Addr) (cap : Nat) (h : ArgsAt w (· < w.heap.size) a xs) :
    Calls Tryz.prog 11 #[.int .i64 fI, .slice a xs.length cap, .slice none 0 0] w fun e w' => e = .returned (.tuple #[vV 0 0 no, .slice none 0 0, .bool false]) ∧ Below w.heap.size w w' :=
  run_bad fI a xs.length cap _ w (begin_bad fI nm 1 (-1) HI xs h1 (by omega) (by omega) (.inr rfl) hok hbad a cap _ (args_below h (step (Below.refl _ _) _)))
theorem slice20 (b o len cap : Nat) (hl : 20 < len) (hc : len ≤ cap) (w : World) : (Instr.slice 37 (.slice (some ⟨b, o, none⟩) len cap) none (some (.int .i64 20)) none).run Tryz.prog w = .ok (.slice (some ⟨b, o, none⟩) 20 cap) w := by
  have hu := Tryz.underlying37
  have h1 : (20 : Int) ≤ (cap : Int) := by omega
  go_simp
  try (intro h; omega)
  try (rw [if_pos (by omega)])
theorem flP_at : ∀ (L : List (Int × Int)) (j : Nat) (x : Int × Int), L[j]? = some x → (flP L)[j * 2]? = some (.int .i64 x.1) ∧ (flP L)[j * 2 + 1]? = some (.int .i64 x.2)
  | [], j, x, h => by simp at h
  | y :: L, 0, x, h => by obtain rfl : y = x := by simpa using h
                          exact ⟨rfl, rfl⟩
  | y :: L, j + 1, x, h => by
    have ih := flP_at L j x (by simpa using h)
    have e : flP (y :: L) = spL y ++ flP L := by simp [flP]
    rw [e, show (j + 1) * 2 = 2 + j * 2 by omega]
    refine ⟨?_, ?_⟩
    · rw [List.getElem?_append_right (by simp)]; simpa using ih.1
    · rw [List.getElem?_append_right (by simp; omega)]; simp only [List.length_cons, List.length_nil]; rw [show 2 + j * 2 + 1 - (0 + 1 + 1) = j * 2 + 1 by omega]; exact ih.2
theorem RowP.at {w : World} {B : Nat} {a : Option Addr} {n cap : Nat} {L : List (Int × Int)} (h : RowP w B (.slice a n cap) L) (hL : 0 < L.length) : ∃ g, a = some ⟨g, 0, none⟩ ∧ ∀ (j : Nat) (x : Int × Int), L[j]? = some x → w.cell? ⟨g, j * 2, none⟩ = some (.int .i64 x.1) ∧ w.cell? ⟨g, j * 2 + 1, none⟩ = some (.int .i64 x.2) := by
  rcases h.2 with ⟨hv, h2⟩ | ⟨g, cap', cur, hv, _, hr, _, _, _, ht⟩
  · omega
  · simp only [Value.slice.injEq] at hv
    obtain ⟨rfl, _, _⟩ := hv
    refine ⟨g, rfl, fun j x hx => ?_⟩
    obtain ⟨c0, c1⟩ := flP_at L j x hx
    have hcell : ∀ (o : Nat) (u : Value), (flP L)[o]? = some u → w.cell? ⟨g, o, none⟩ = some u := fun o u hu => by
      rw [cell_of_row w g o cur _ (0, 0) hr, ← Array.getElem?_toList]
      rw [← ht, List.getElem?_take] at hu
      split at hu
      · exact hu
      · cases hu
    exact ⟨hcell _ _ c0, hcell _ _ c1⟩
theorem sp_neq2 (p q : Int) (w : World) : (binOp .neq 39 (.agg #[.int .i64 p, .int .i64 q]) (.agg #[.int .i64 p, .int .i64 q])).run Tryz.prog w = .ok (.bool false) w := by go_simp
theorem va_neq1 (i : Int) (w : World) : (binOp .neq 28 (vV 1 i no) (vV 1 i no)).run Tryz.prog w = .ok (.bool false) w := by go_simp
set_option maxHeartbeats 8000000 in
set_option maxRecDepth 100000 in
theorem fo_small (xs : List Ag) (m : Nat) (hm20 : m ≤ 20) (hm : xs.length = m) (hbd : ∀ x ∈ xs, -9223372036854775808 ≤ x.v.i ∧ x.v.i ≤ 9223372036854775807) (a : Option Addr) (cap : Nat) (w : World) (h : ArgsAt w (· < w.heap.size) a xs) : Calls Tryz.prog 7 #[.slice a m cap] w fun e w' => e = .returned (.bool true) ∧ Below w.heap.size w w' := by
  have pl : ¬ (20 : Int) < (m : Int) := by omega
  replace hm := hide hm
  replace h := hide h
  replace hbd := hide hbd
  go_enter Tryz.func7, Tryz.ntmps7
  go_wp2_with fail
  refine (begun15.out _).mono ?_
  rintro e w1 ⟨rfl, hb1⟩
  have K1 := hide (next (Below.refl w.heap.size w) hb1)
  have h1 := hide (args_below h.out hb1)
  clear hb1 h
  go_wp2_with fail
  go_loopw [3, 4, 5, 6] (fun l gv sm i wr => ∃ (j : Nat) (G M : Int), j ≤ m ∧ i = .int .i64 (j : Int) ∧ gv = .int .i64 G ∧ sm = .int .i64 M ∧ Hid (G = (cntG (fun _ => true) (xs.take j) : Nat)) ∧ Hid (M = (cntG (fun x => !(x.k == 0)) (xs.take j) : Nat)) ∧ Hid (RowP wr w1.heap.size l (wantL (xs.take j))) ∧ Hid (∀ x ∈ xs.take j, x.is = true → AgOk x) ∧ Hid (Below w1.heap.size w1 wr)) (fun _ _ _ i _ => m - (intOf i).toNat)
  case atStart => exact ⟨0, 0, 0, Nat.zero_le _, rfl, rfl, rfl, hide rfl, hide rfl, hide (RowP.nil _ _), hide (fun x hx => by cases hx), hide (Below.refl _ _)⟩
  case round =>
    obtain ⟨j, G, M, hj, rfl, rfl, rfl, hG, hM, HV, hA, HB⟩ := hrel
    have hz : Hid (w1.heap.size ≤ wr.heap.size) := hide HB.out.size
    obtain ⟨al, nl, cl, rfl, hnl⟩ := HV.out.shapeN
    replace hnl := hide hnl
    by_cases hlt : j < m
    · have q0 : (j : Int) < (m : Int) := by omega
      have hj' : j < xs.length := by have := hm.out; omega
      obtain ⟨b, o, hab, hbl, hrow⟩ : ∃ b o, a = some ⟨b, o, none⟩ ∧ b < w1.heap.size ∧ ∀ (j : Nat) (x : Ag), xs[j]? = some x → w1.rangeAt b (o + j * 8) (agL x) := by
        rcases h1.out with h | h
        · rw [h] at hj'; cases hj'
        · exact h
      subst hab
      have hcell := hide (fun wz (hb : Below w1.heap.size w1 wz) => T9.range_of_block (hrow j _ (List.getElem?_eq_getElem hj')) (hb.block b hbl))
      have hwn := hide (wantL_snoc xs j hj')
      have hcG := hide (cntG_snoc (fun _ => true) xs j hj')
      have hcM := hide (cntG_snoc (fun x => !(x.k == 0)) xs j hj')
      have hA' : Hid ((xs[j].is = true → AgOk xs[j]) → ∀ x ∈ xs.take (j + 1), x.is = true → AgOk x) := hide (fun hx x hxm => by
        rw [List.take_succ_eq_append_getElem hj', List.mem_append] at hxm
        rcases hxm with h | h
        · exact hA.out x h
        · rw [List.mem_singleton] at h; subst h; exact hx)
      have hlen : Hid ((wantL (xs.take j)).length ≤ 81920) := hide (by have := wantL_len _ hA.out; rw [List.length_take] at this; omega)
      have bG0 : 0 ≤ G := by rw [hG.out]; omega
      have bG1 : G ≤ 20 := by rw [hG.out]; have := cntG_le (fun _ => true) (xs.take j); rw [List.length_take] at this; omega
      have bM0 : 0 ≤ M := by rw [hM.out]; omega
      have bM1 : M ≤ 20 := by rw [hM.out]; have := cntG_le (fun x => !(x.k == 0)) (xs.take j); rw [List.length_take] at this; omega
      have hm1 : Hid ((intOf (.int .i64 ((j : Int) + 1))).toNat = j + 1) := hide rfl
      have hm2 : Hid ((intOf (.int .i64 (j : Int))).toNat = j) := hide rfl
      have hr0 := hcell.out wr HB.out
      generalize xs[j] = ag at *
      obtain ⟨is, t, l, bb, r0, ⟨vk, vi, vt⟩⟩ := ag
      have a0 : wr.cell? ⟨b, o + j * 8, none⟩ = some (.bool is) := hr0 0 _ rfl
      have a1 : wr.cell? ⟨b, o + j * 8 + 1, none⟩ = some (.int .i64 t) := hr0 1 _ rfl
      have a2 : wr.cell? ⟨b, o + j * 8 + 2, none⟩ = some (.int .i64 l) := hr0 2 _ rfl
      have a3 : wr.cell? ⟨b, o + j * 8 + 3, none⟩ = some (.int .i64 bb) := hr0 3 _ rfl
      have a4 : wr.cell? ⟨b, o + j * 8 + 4, none⟩ = some (.int .i64 r0) := hr0 4 _ rfl
      have a5 : wr.cell? ⟨b, o + j * 8 + 5, none⟩ = some (.int .i64 vk) := hr0 5 _ rfl
      clear hr0 hrow hj' hbl
      cases is with
      | false =>
        simp only [Bool.false_eq_true, if_false, List.append_nil] at hwn hcG hcM
        by_cases k0 : vk = 0
        · subst k0
          have q1 : ((0 : Int) != 0) = false := rfl
          go_wp2_with fail
          refine ⟨⟨j + 1, _, _, hlt, rfl, rfl, rfl, hide (by rw [hcG.out, hG.out]; simp), hide (by rw [hcM.out, hM.out]; simp), hide (by rw [hwn.out]; exact HV.out), hide (hA'.out (fun h => by cases h)), HB⟩, ?_⟩
          rw [hm1.out, hm2.out]; omega
        · have q1 : (vk != 0) = true := by simp [k0]
          have q2 : (vk == 0) = false := by simp [k0]
          replace q2 := hide q2
          clear k0
          go_wp2_with fail
          refine ⟨⟨j + 1, _, _, hlt, rfl, rfl, rfl, hide (by rw [hcG.out, hG.out]; simp), hide (by rw [hcM.out, hM.out, q2.out]; simp), hide (by rw [hwn.out]; exact HV.out), hide (hA'.out (fun h => by cases h)), HB⟩, ?_⟩
          rw [hm1.out, hm2.out]; omega
      | true =>
        have HMr := fun w => T3.rmay_any t l bb r0 w
        by_cases ho : 0 ≤ t ∧ t ≤ bb ∧ bb < 65536 ∧ 0 ≤ l ∧ l ≤ r0 ∧ r0 < 702
        · rw [T3.eA_ok ho] at HMr
          by_cases hp : 4096 < (bb - t + 1) * (r0 - l + 1)
          · have HZ := hide (fun w => T3.rsize_long t l bb r0 w ho hp HMr)
            clear ho hp HMr
            go_wp2_with fail
            refine (HZ.out _).mono ?_
            rintro e w2 ⟨rfl, hb2⟩
            have K2 := hide (next (next K1.out HB.out) hb2)
            clear hb2 a0 a1 a2 a3 a4 a5
            go_wp2_with fail
            go_ret
            exact ⟨rfl, K2.out⟩
          · have HZ := fun w => T3.rsize_yes t l bb r0 w ho hp HMr
            have hmany := many_int t l bb r0 ⟨vk, vi, vt⟩ ⟨ho.2.1, ho.2.2.2.2.1⟩
            rw [← hmany] at HZ
            have hle : (⟨true, t, l, bb, r0, ⟨vk, vi, vt⟩⟩ : Ag).many ≤ 4096 := by omega
            have hagk : Hid (AgOk ⟨true, t, l, bb, r0, ⟨vk, vi, vt⟩⟩) := hide (by unfold AgOk; rw [if_pos rfl]; exact ⟨ho, hle⟩)
            have HAt := fun (k : Nat) (hk : k < (⟨true, t, l, bb, r0, ⟨vk, vi, vt⟩⟩ : Ag).many) w => T3.at_any t l bb r0 (k : Int) w ho (by omega) (by rw [← hmany]; omega)
            have hplc := fun k => plc_int t l bb r0 ⟨vk, vi, vt⟩ ⟨ho.2.2.2.1, ho.2.2.2.2.1⟩ k
            simp only [if_true] at hwn hcG hcM
            generalize hag : (⟨true, t, l, bb, r0, ⟨vk, vi, vt⟩⟩ : Ag) = ag at *
            generalize hmn : ag.many = n at *
            replace hmn := hide hmn
            replace hag := hide hag
            replace HZ := hide HZ
            replace HAt := hide HAt
            replace hplc := hide hplc
            clear ho hp HMr hmany
            go_wp2_with fail
            refine (HZ.out _).mono ?_
            rintro e w2 ⟨rfl, hb2⟩
            have KB := hide (HB.out.trans (hb2.mono hz.out))
            have V2 := hide (HV.out.keep hb2)
            clear hb2 a0 a1 a2 a3 a4 a5 HB HV
            go_wp2_with fail
            go_loopw [3, 9] (fun l2 kv wy => ∃ kk : Nat, kk ≤ n ∧ kv = .int .i64 (kk : Int) ∧ Hid (RowP wy w1.heap.size l2 (wantL (xs.take j) ++ (List.range kk).map (plc ag))) ∧ Hid (Below w1.heap.size w1 wy)) (fun _ kv _ => n - (intOf kv).toNat)
            case atStart => exact ⟨0, Nat.zero_le _, rfl, hide (by simpa using V2.out), KB⟩
            case round =>
              obtain ⟨kk, hk, rfl, RV, RB⟩ := hrel
              obtain ⟨al2, nl2, cl2, rfl, hnl2⟩ := RV.out.shapeN
              replace hnl2 := hide hnl2
              by_cases hk2 : kk < n
              · have q3 : (kk : Int) < (n : Int) := by omega
                have hr2 := hcell.out wr RB.out
                rw [← hag.out] at hr2
                have d1 : wr.cell? ⟨b, o + j * 8 + 1, none⟩ = some (.int .i64 t) := hr2 1 _ rfl
                have d2 : wr.cell? ⟨b, o + j * 8 + 2, none⟩ = some (.int .i64 l) := hr2 2 _ rfl
                have d3 : wr.cell? ⟨b, o + j * 8 + 3, none⟩ = some (.int .i64 bb) := hr2 3 _ rfl
                have d4 : wr.cell? ⟨b, o + j * 8 + 4, none⟩ = some (.int .i64 r0) := hr2 4 _ rfl
                obtain ⟨p1, hp1⟩ : ∃ p1, t + (kk : Int) / (r0 - l + 1) = p1 := ⟨_, rfl⟩
                obtain ⟨p2, hp2⟩ : ∃ p2, l + (kk : Int) % (r0 - l + 1) = p2 := ⟨_, rfl⟩
                have HA1 := HAt.out kk hk2
                have hpk := hplc.out kk
                rw [hp1, hp2] at HA1 hpk
                replace HA1 := hide HA1
                have hsn : Hid ((wantL (xs.take j) ++ (List.range kk).map (plc ag)) ++ [(p1, p2)] = wantL (xs.take j) ++ (List.range (kk + 1)).map (plc ag)) := hide (by rw [List.range_succ, List.map_append, List.append_assoc]; simp [hpk])
                have hle2 : Hid ((wantL (xs.take j) ++ (List.range kk).map (plc ag)).length < 1000000) := hide (by rw [List.length_append, List.length_map, List.length_range]; have := hlen.out; omega)
                have hz2 : Hid (w1.heap.size ≤ wr.heap.size) := hide RB.out.size
                have hk1 : Hid ((intOf (.int .i64 ((kk : Int) + 1))).toNat = kk + 1) := hide rfl
                have hk3 : Hid ((intOf (.int .i64 (kk : Int))).toNat = kk) := hide rfl
                clear hr2 hpk hp1 hp2
                go_wp2_with fail
                refine (HA1.out _).mono ?_
                rintro e w3 ⟨rfl, hb3⟩
                have K3 := hide (RB.out.trans (hb3.mono hz2.out))
                have hz3 : Hid (w1.heap.size ≤ w3.heap.size) := hide K3.out.size
                have R3 := hide (((RV.out.keep hb3).keep (step (Below.refl w3.heap.size w3) (.cells #[.int .i64 p1, .int .i64 p2] 39))).keep (step (Below.refl _ _) (.cells #[.int .i64 p1, .int .i64 p2] 39)))
                have K4 := hide ((K3.out.alloc hz3.out (.cells #[.int .i64 p1, .int .i64 p2] 39)).alloc (Nat.le_trans hz3.out (by simp)) (.cells #[.int .i64 p1, .int .i64 p2] 39))
                have hBB : Hid (w1.heap.size ≤ ((w3.alloc (.cells #[.int .i64 p1, .int .i64 p2] 39)).alloc (.cells #[.int .i64 p1, .int .i64 p2] 39)).heap.size) := hide (Nat.le_trans hz3.out (by simp; omega))
                have hrg : Hid (((w3.alloc (.cells #[.int .i64 p1, .int .i64 p2] 39)).alloc (.cells #[.int .i64 p1, .int .i64 p2] 39)).rangeAt (w3.heap.size + 1) 0 (spL (p1, p2))) := hide (fun jj u hu => by
                  have hb := T9.Blk.new1 w3 (.cells #[.int .i64 p1, .int .i64 p2] 39) #[.int .i64 p1, .int .i64 p2] 39
                  rw [hb.at', Nat.zero_add]
                  simpa using hu)
                clear hb3 d1 d2 d3 d4
                go_wp2_with (refine wpList_appP rfl _ _ rfl rfl rfl R3.out (p1, p2) hrg.out hle2.out hBB.out ?_; intro v5 w5 g1 g2 g3)
                rw [hsn.out] at g1
                refine ⟨⟨kk + 1, hk2, rfl, hide g1, hide ?_⟩, ?_⟩
                · exact ⟨g2.os.trans K4.out.os, g2.tape.trans K4.out.tape, g2.output.trans K4.out.output, Nat.le_trans K4.out.size g2.size, fun k hk => (g2.block k (Nat.lt_of_lt_of_le hk hBB.out) (fun e => by have := (owns_lt R3.out k e.symm).1; omega)).trans (K4.out.block k hk)⟩
                · rw [hk1.out, hk3.out]; omega
              · obtain rfl : n = kk := by omega
                go_wp2_with fail
                refine ⟨⟨j + 1, _, _, hlt, rfl, rfl, rfl, hide (by rw [hcG.out, hG.out]; simp), hide (by rw [hcM.out, hM.out]; simp), hide (by rw [hwn.out]; exact RV.out), hide (hA'.out (fun _ => hagk.out)), RB⟩, ?_⟩
                rw [hm1.out, hm2.out]; omega
        · rw [T3.eA_no ho] at HMr
          have HZ := hide (fun w => T3.rsize_bad t l bb r0 w HMr)
          clear ho HMr
          go_wp2_with fail
          refine (HZ.out _).mono ?_
          rintro e w2 ⟨rfl, hb2⟩
          have K2 := hide (next (next K1.out HB.out) hb2)
          clear hb2 a0 a1 a2 a3 a4 a5
          go_wp2_with fail
          go_ret
          exact ⟨rfl, K2.out⟩
    · obtain rfl : m = j := by omega
      have htk : Hid (xs.take m = xs) := hide (by rw [← hm.out]; exact List.take_length)
      rw [htk.out] at hG hM HV hA hnl
      have KR := hide (next K1.out HB.out)
      have A1 := hide (args_below h1.out HB.out)
      clear HB hz h1 hlt hj htk
      by_cases h0 : m = 0
      · subst h0
        go_wp2_with fail
        go_ret
        exact ⟨rfl, KR.out⟩
      have p0 : ((m : Int) == 0) = false := by simp; omega
      have hx0 : Hid (0 < xs.length ∧ xs.length ≤ 20) := hide (by have := hm.out; omega)
      by_cases hw : 69000 < nl
      · have p1 : (69000 : Int) < (nl : Int) := by omega
        go_wp2_with fail
        go_ret
        exact ⟨rfl, KR.out⟩
      have p1 : ¬ (69000 : Int) < (nl : Int) := by omega
      have hwl : Hid ((wantL xs).length ≤ 69000) := hide (by have := hnl.out; omega)
      clear hw
      by_cases hbad : ∃ a ∈ xs, a.is = false ∧ ¬ Good a.v.k a.v.i a.v.t
      · have hok2 : ∀ a ∈ xs, AgOk a ∨ (a.is = false ∧ ¬ Good a.v.k a.v.i a.v.t) := fun x hx => by
          cases hx1 : x.is with
          | true => exact .inl (hA.out x hx hx1)
          | false =>
            by_cases hg : Good x.v.k x.v.i x.v.t
            · left; unfold AgOk; rw [if_neg (by simp [hx1])]; exact ⟨hg, hbd.out x hx⟩
            · exact .inr ⟨rfl, hg⟩
        have C57 := run_obad 57 _ info57 xs hx0.out.1 hx0.out.2 hok2 hbad wr _ cap A1.out
        have C58 := fun w h => run_obad 58 _ info58 xs hx0.out.1 hx0.out.2 hok2 hbad w a cap h
        rw [hm.out] at C57
        rw [hm.out] at C58
        replace C57 := hide C57
        replace C58 := hide C58
        clear hok2 hbad
        go_wp2_with fail
        refine C57.out.mono ?_
        rintro e w2 ⟨rfl, hb2⟩
        have K2 := hide (step (next KR.out hb2) (vO 0 0 no))
        have C5 := hide (C58.out _ (args_below (args_below A1.out hb2) (step (Below.refl w2.heap.size w2) (vO 0 0 no))))
        clear hb2
        go_wp2_with fail
        refine C5.out.mono ?_
        rintro e w3 ⟨rfl, hb3⟩
        have K3 := hide (step (next K2.out hb3) (vO 0 0 no))
        clear hb3
        go_wp2_with fail
        go_ret
        exact ⟨rfl, K3.out⟩
      · have hok2 : ∀ a ∈ xs, AgOk a := fun x hx => by
          cases hx1 : x.is with
          | true => exact hA.out x hx hx1
          | false =>
            by_cases hg : Good x.v.k x.v.i x.v.t
            · unfold AgOk; rw [if_neg (by simp [hx1])]; exact ⟨hg, hbd.out x hx⟩
            · exact absurd ⟨x, hx, hx1, hg⟩ hbad
        have C57 := run_ord 57 _ (fun x => !(x.k == 0)) countFilled_mkis _ info57 idx57 true rfl xs hx0.out.1 hx0.out.2 hok2 hwl.out wr _ cap A1.out
        have C58 := fun w h => run_ord 58 _ (fun x => x.k == 0) countBlank_mkis _ info58 idx58 false rfl xs hx0.out.1 hx0.out.2 hok2 hwl.out w a cap h
        obtain ⟨E7, hE7⟩ : ∃ E7 : Int, (((if true then (wantL xs).length else 0) + cntG (fun x => !(x.k == 0)) xs : Nat) : Int) = E7 := ⟨_, rfl⟩
        obtain ⟨E8, hE8⟩ : ∃ E8 : Int, (((if false then (wantL xs).length else 0) + cntG (fun x => x.k == 0) xs : Nat) : Int) = E8 := ⟨_, rfl⟩
        rw [hm.out, hE7] at C57
        rw [hm.out, hE8] at C58
        have hc2 := cntG_two xs
        have cl1 := cntG_le (fun x => !(x.k == 0)) xs
        have cl2 := cntG_le (fun _ => true) xs
        have hw7 : wrap64 ((nl : Int) + M) = E7 := by
          have e : (nl : Int) + M = E7 := by rw [← hE7, hM.out, hnl.out]; simp
          rw [e]
          exact IntWalk.wrap64_in _ ⟨by rw [← hE7]; omega, by rw [← e, hM.out]; have := hx0.out.2; omega⟩
        have hw8 : wrap64 (G - M) = E8 := by
          have e : G - M = E8 := by rw [← hE8, hG.out, hM.out, ← hc2]; simp; omega
          rw [e]
          exact IntWalk.wrap64_in _ ⟨by rw [← hE8]; omega, by rw [← e, hG.out, hM.out]; have := hx0.out.2; omega⟩
        replace C57 := hide C57
        replace C58 := hide C58
        replace hw7 := hide hw7
        replace hw8 := hide hw8
        clear hok2 hbad hE7 hE8 hc2 cl1 cl2
        go_wp2_with fail
        refine C57.out.mono ?_
        rintro e w2 ⟨v2, rfl, r2, hb2⟩
        obtain ⟨a2, n2, c2, rfl, hn2⟩ := r2.shapeN
        have hn2' : nl = n2 := by rw [hn2, hnl.out]
        subst hn2'
        clear hn2
        have K2 := hide (step (next KR.out hb2) (vO 1 E7 no))
        have C5 := hide (C58.out _ (args_below (args_below A1.out hb2) (step (Below.refl w2.heap.size w2) (vO 1 E7 no))))
        have X2 := hide (Blk.new w2 #[.int .i64 1, .int .i64 E7, .string no] 28)
        have L2 := hide (r2.keep (step (Below.refl w2.heap.size w2) (vO 1 E7 no)))
        have W2 := hide ((HV.out.keep hb2).keep (step (Below.refl w2.heap.size w2) (vO 1 E7 no)))
        clear hb2 r2 HV
        go_wp2_with fail
        refine C5.out.mono ?_
        rintro e w3 ⟨v3, rfl, r3, hb3⟩
        obtain ⟨a3, n3, c3, rfl, hn3⟩ := r3.shapeN
        have hn3' : nl = n3 := by rw [hn3, hnl.out]
        subst hn3'
        clear hn3
        have KF := hide (step (next K2.out hb3) (vO 1 E8 no))
        have X3 := hide ((X2.out.keep hb3).alloc (vO 1 E8 no))
        have Y3 := hide (Blk.new w3 #[.int .i64 1, .int .i64 E8, .string no] 28)
        have L3 := hide ((L2.out.keep hb3).keep (step (Below.refl w3.heap.size w3) (vO 1 E8 no)))
        have W3 := hide ((W2.out.keep hb3).keep (step (Below.refl w3.heap.size w3) (vO 1 E8 no)))
        have M3 := hide (r3.keep (step (Below.refl w3.heap.size w3) (vO 1 E8 no)))
        clear hb3 r3 L2 W2 X2 C57 C58 C5 A1
        obtain ⟨X, hX⟩ : ∃ X, w2.heap.size = X := ⟨_, rfl⟩
        obtain ⟨Y, hY⟩ : ∃ Y, w3.heap.size = Y := ⟨_, rfl⟩
        rw [hX] at X3
        rw [hY] at Y3
        go_upto_region 28 with fail
        obtain ⟨wf, hwf⟩ : ∃ wf, w3.alloc (.cells #[.int .i64 1, .int .i64 E8, .string no] 28) = wf := ⟨_, rfl⟩
        simp only [vO] at KF X3 Y3 L3 W3 M3
        rw [hwf] at KF X3 Y3 L3 W3 M3 ⊢
        clear hwf
        have x0 : wf.cell? ⟨X, 0, none⟩ = some (.int .i64 1) := X3.out.at' 0
        have x1 : wf.cell? ⟨X, 1, none⟩ = some (.int .i64 E7) := X3.out.at' 1
        have x2 : wf.cell? ⟨X, 2, none⟩ = some (.string no) := X3.out.at' 2
        have y0 : wf.cell? ⟨Y, 0, none⟩ = some (.int .i64 1) := Y3.out.at' 0
        have y1 : wf.cell? ⟨Y, 1, none⟩ = some (.int .i64 E8) := Y3.out.at' 1
        have y2 : wf.cell? ⟨Y, 2, none⟩ = some (.string no) := Y3.out.at' 2
        replace x0 := cell_regrown x0
        replace x1 := cell_regrown x1
        replace x2 := cell_regrown x2
        replace y0 := cell_regrown y0
        replace y1 := cell_regrown y1
        replace y2 := cell_regrown y2
        have z7 := hw7.out
        have z8 := hw8.out
        have e7 := va_neq1 E7
        have e8 := va_neq1 E8
        have kq0 := fun d' os => Calls.regrown_of ((lnum_is E7).out (grow (redrawn wf d') os))
        have kq1 := fun d' os => Calls.regrown_of ((lnum_is E8).out (grow (redrawn wf d') os))
        refine wp_region_quiet_below (by kernel_rfl) (by kernel_rfl) ?_
        repeat (go_big_quiet_step (first | (with_reducible exact kq0 _ _) | (with_reducible exact kq1 _ _)))
        refine wpQuiet_nil ?_
        intro wq hwq
        have hbq : Hid (Below wf.heap.size wf wq) := hide (by obtain ⟨⟨dq, osq⟩, hq⟩ := hwq; rw [hq]; exact below_regrown _ dq osq)
        clear hwq x0 x1 x2 y0 y1 y2 z7 z8 kq0 kq1 e7 e8
        go_wp2_with fail
        go_loopw [17] (fun v wz => ∃ q : Nat, q ≤ nl ∧ v = .int .i64 (q : Int) ∧ Hid (Below wf.heap.size wf wz)) (fun v _ => nl - (intOf v).toNat)
        case atStart => exact ⟨0, Nat.zero_le _, rfl, hbq⟩
        case round =>
          obtain ⟨q, hq, rfl, HB⟩ := hrel
          by_cases hlt2 : q < nl
          · have p5 : (q : Int) < (nl : Int) := by omega
            have hql : q < (wantL xs).length := by rw [← hnl.out]; exact hlt2
            obtain ⟨gl, rfl, hgl⟩ := L3.out.at (by omega)
            obtain ⟨gm, rfl, hgm⟩ := M3.out.at (by omega)
            obtain ⟨gw, rfl, hgw⟩ := W3.out.at (by omega)
            obtain ⟨⟨s1, s2⟩, hs⟩ : ∃ p, (wantL xs)[q]? = some p := ⟨_, List.getElem?_eq_getElem hql⟩
            have c0 := cell_regrown (keep1 HB.out (hgl q _ hs).1)
            have c1 := cell_regrown (keep1 HB.out (hgl q _ hs).2)
            have c2' := cell_regrown (keep1 HB.out (hgm q _ hs).1)
            have c3' := cell_regrown (keep1 HB.out (hgm q _ hs).2)
            have c4 := cell_regrown (keep1 HB.out (hgw q _ hs).1)
            have c5 := cell_regrown (keep1 HB.out (hgw q _ hs).2)
            simp only at c0 c1 c2' c3' c4 c5
            have hnq := sp_neq2 s1 s2
            have hm3 : Hid ((intOf (.int .i64 ((q : Int) + 1))).toNat = q + 1) := hide rfl
            have hm4 : Hid ((intOf (.int .i64 (q : Int))).toNat = q) := hide rfl
            clear hgl hgm hgw hs hql
            go_upto_region 33 with fail
            refine wp_region_quiet_below (by kernel_rfl) (by kernel_rfl) ?_
            repeat (go_big_quiet_step (fail))
            refine wpQuiet_nil ?_
            intro wq2 hwq2
            have hb2 : Below wr.heap.size wr wq2 := by obtain ⟨⟨dq, osq⟩, hq⟩ := hwq2; rw [hq]; exact below_regrown _ dq osq
            have HB2 := hide (next HB.out hb2)
            clear hwq2 hb2 c0 c1 c2' c3' c4 c5
            go_wp2_with fail
            refine ⟨⟨q + 1, hlt2, rfl, HB2⟩, ?_⟩
            rw [hm3.out, hm4.out]
            omega
          · obtain rfl : q = nl := by omega
            go_wp2_with fail
            go_ret
            exact ⟨rfl, next KF.out HB.out⟩
set_option maxHeartbeats 8000000 in
set_option maxRecDepth 100000 in
theorem fo_great (xs : List Ag) (m : Nat) (hm20 : m ≤ 20) (hm : xs.length = m) (hbd : ∀ x ∈ xs, -9223372036854775808 ≤ x.v.i ∧ x.v.i ≤ 9223372036854775807) (a : Option Addr) (cap : Nat) (len : Nat) (hl : 20 < len) (hcap : len ≤ cap) (hm2 : m = 20) (w : World) (h : ArgsAt w (· < w.heap.size) a xs) : Calls Tryz.prog 7 #[.slice a len cap] w fun e w' => e = .returned (.bool true) ∧ Below w.heap.size w w' := by
  subst hm2
  obtain ⟨b0, o0, hab⟩ : ∃ b o, a = some ⟨b, o, none⟩ := by
    rcases h with h | ⟨b, o, h, _⟩
    · rw [h] at hm; cases hm
    · exact ⟨b, o, h⟩
  subst hab
  have hsl := fun w => slice20 b0 o0 len cap hl hcap w
  have pl : (20 : Int) < (len : Int) := by omega
  have pl' : 20 < len := hl
  clear hl hcap
  replace hm := hide hm
  replace h := hide h
  replace hbd := hide hbd
  go_enter Tryz.func7, Tryz.ntmps7
  go_wp2_with fail
  refine (begun15.out _).mono ?_
  rintro e w1 ⟨rfl, hb1⟩
  have K1 := hide (next (Below.refl w.heap.size w) hb1)
  have h1 := hide (args_below h.out hb1)
  clear hb1 h
  go_wp2_with fail
  go_loopw [3, 4, 5, 6] (fun l gv sm i wr => ∃ (j : Nat) (G M : Int), j ≤ 20 ∧ i = .int .i64 (j : Int) ∧ gv = .int .i64 G ∧ sm = .int .i64 M ∧ Hid (G = (cntG (fun _ => true) (xs.take j) : Nat)) ∧ Hid (M = (cntG (fun x => !(x.k == 0)) (xs.take j) : Nat)) ∧ Hid (RowP wr w1.heap.size l (wantL (xs.take j))) ∧ Hid (∀ x ∈ xs.take j, x.is = true → AgOk x) ∧ Hid (Below w1.heap.size w1 wr)) (fun _ _ _ i _ => 20 - (intOf i).toNat)
  case atStart => exact ⟨0, 0, 0, Nat.zero_le _, rfl, rfl, rfl, hide rfl, hide rfl, hide (RowP.nil _ _), hide (fun x hx => by cases hx), hide (Below.refl _ _)⟩
  case round =>
    obtain ⟨j, G, M, hj, rfl, rfl, rfl, hG, hM, HV, hA, HB⟩ := hrel
    have hz : Hid (w1.heap.size ≤ wr.heap.size) := hide HB.out.size
    obtain ⟨al, nl, cl, rfl, hnl⟩ := HV.out.shapeN
    replace hnl := hide hnl
    by_cases hlt : j < 20
    · have q0 : (j : Int) < 20 := by omega
      have hj' : j < xs.length := by have := hm.out; omega
      obtain ⟨b, o, hab, hbl, hrow⟩ : ∃ b o, (some (⟨b0, o0, none⟩ : Addr)) = some ⟨b, o, none⟩ ∧ b < w1.heap.size ∧ ∀ (j : Nat) (x : Ag), xs[j]? = some x → w1.rangeAt b (o + j * 8) (agL x) := by
        rcases h1.out with h | h
        · rw [h] at hj'; cases hj'
        · exact h
      cases hab
      have hcell := hide (fun wz (hb : Below w1.heap.size w1 wz) => T9.range_of_block (hrow j _ (List.getElem?_eq_getElem hj')) (hb.block b0 hbl))
      have hwn := hide (wantL_snoc xs j hj')
      have hcG := hide (cntG_snoc (fun _ => true) xs j hj')
      have hcM := hide (cntG_snoc (fun x => !(x.k == 0)) xs j hj')
      have hA' : Hid ((xs[j].is = true → AgOk xs[j]) → ∀ x ∈ xs.take (j + 1), x.is = true → AgOk x) := hide (fun hx x hxm => by
        rw [List.take_succ_eq_append_getElem hj', List.mem_append] at hxm
        rcases hxm with h | h
        · exact hA.out x h
        · rw [List.mem_singleton] at h; subst h; exact hx)
      have hlen : Hid ((wantL (xs.take j)).length ≤ 81920) := hide (by have := wantL_len _ hA.out; rw [List.length_take] at this; omega)
      have bG0 : 0 ≤ G := by rw [hG.out]; omega
      have bG1 : G ≤ 20 := by rw [hG.out]; have := cntG_le (fun _ => true) (xs.take j); rw [List.length_take] at this; omega
      have bM0 : 0 ≤ M := by rw [hM.out]; omega
      have bM1 : M ≤ 20 := by rw [hM.out]; have := cntG_le (fun x => !(x.k == 0)) (xs.take j); rw [List.length_take] at this; omega
      have hm1 : Hid ((intOf (.int .i64 ((j : Int) + 1))).toNat = j + 1) := hide rfl
      have hm2 : Hid ((intOf (.int .i64 (j : Int))).toNat = j) := hide rfl
      have hr0 := hcell.out wr HB.out
      generalize xs[j] = ag at *
      obtain ⟨is, t, l, bb, r0, ⟨vk, vi, vt⟩⟩ := ag
      have a0 : wr.cell? ⟨b0, o0 + j * 8, none⟩ = some (.bool is) := hr0 0 _ rfl
      have a1 : wr.cell? ⟨b0, o0 + j * 8 + 1, none⟩ = some (.int .i64 t) := hr0 1 _ rfl
      have a2 : wr.cell? ⟨b0, o0 + j * 8 + 2, none⟩ = some (.int .i64 l) := hr0 2 _ rfl
      have a3 : wr.cell? ⟨b0, o0 + j * 8 + 3, none⟩ = some (.int .i64 bb) := hr0 3 _ rfl
      have a4 : wr.cell? ⟨b0, o0 + j * 8 + 4, none⟩ = some (.int .i64 r0) := hr0 4 _ rfl
      have a5 : wr.cell? ⟨b0, o0 + j * 8 + 5, none⟩ = some (.int .i64 vk) := hr0 5 _ rfl
      clear hr0 hrow hj' hbl
      cases is with
      | false =>
        simp only [Bool.false_eq_true, if_false, List.append_nil] at hwn hcG hcM
        by_cases k0 : vk = 0
        · subst k0
          have q1 : ((0 : Int) != 0) = false := rfl
          go_wp2_with fail
          refine ⟨⟨j + 1, _, _, hlt, rfl, rfl, rfl, hide (by rw [hcG.out, hG.out]; simp), hide (by rw [hcM.out, hM.out]; simp), hide (by rw [hwn.out]; exact HV.out), hide (hA'.out (fun h => by cases h)), HB⟩, ?_⟩
          rw [hm1.out, hm2.out]; omega
        · have q1 : (vk != 0) = true := by simp [k0]
          have q2 : (vk == 0) = false := by simp [k0]
          replace q2 := hide q2
          clear k0
          go_wp2_with fail
          refine ⟨⟨j + 1, _, _, hlt, rfl, rfl, rfl, hide (by rw [hcG.out, hG.out]; simp), hide (by rw [hcM.out, hM.out, q2.out]; simp), hide (by rw [hwn.out]; exact HV.out), hide (hA'.out (fun h => by cases h)), HB⟩, ?_⟩
          rw [hm1.out, hm2.out]; omega
      | true =>
        have HMr := fun w => T3.rmay_any t l bb r0 w
        by_cases ho : 0 ≤ t ∧ t ≤ bb ∧ bb < 65536 ∧ 0 ≤ l ∧ l ≤ r0 ∧ r0 < 702
        · rw [T3.eA_ok ho] at HMr
          by_cases hp : 4096 < (bb - t + 1) * (r0 - l + 1)
          · have HZ := hide (fun w => T3.rsize_long t l bb r0 w ho hp HMr)
            clear ho hp HMr
            go_wp2_with fail
            refine (HZ.out _).mono ?_
            rintro e w2 ⟨rfl, hb2⟩
            have K2 := hide (next (next K1.out HB.out) hb2)
            clear hb2 a0 a1 a2 a3 a4 a5
            go_wp2_with fail
            go_ret
            exact ⟨rfl, K2.out⟩
          · have HZ := fun w => T3.rsize_yes t l bb r0 w ho hp HMr
            have hmany := many_int t l bb r0 ⟨vk, vi, vt⟩ ⟨ho.2.1, ho.2.2.2.2.1⟩
            rw [← hmany] at HZ
            have hle : (⟨true, t, l, bb, r0, ⟨vk, vi, vt⟩⟩ : Ag).many ≤ 4096 := by omega
            have hagk : Hid (AgOk ⟨true, t, l, bb, r0, ⟨vk, vi, vt⟩⟩) := hide (by unfold AgOk; rw [if_pos rfl]; exact ⟨ho, hle⟩)
            have HAt := fun (k : Nat) (hk : k < (⟨true, t, l, bb, r0, ⟨vk, vi, vt⟩⟩ : Ag).many) w => T3.at_any t l bb r0 (k : Int) w ho (by omega) (by rw [← hmany]; omega)
            have hplc := fun k => plc_int t l bb r0 ⟨vk, vi, vt⟩ ⟨ho.2.2.2.1, ho.2.2.2.2.1⟩ k
            simp only [if_true] at hwn hcG hcM
            generalize hag : (⟨true, t, l, bb, r0, ⟨vk, vi, vt⟩⟩ : Ag) = ag at *
            generalize hmn : ag.many = n at *
            replace hmn := hide hmn
            replace hag := hide hag
            replace HZ := hide HZ
            replace HAt := hide HAt
            replace hplc := hide hplc
            clear ho hp HMr hmany
            go_wp2_with fail
            refine (HZ.out _).mono ?_
            rintro e w2 ⟨rfl, hb2⟩
            have KB := hide (HB.out.trans (hb2.mono hz.out))
            have V2 := hide (HV.out.keep hb2)
            clear hb2 a0 a1 a2 a3 a4 a5 HB HV
            go_wp2_with fail
            go_loopw [3, 9] (fun l2 kv wy => ∃ kk : Nat, kk ≤ n ∧ kv = .int .i64 (kk : Int) ∧ Hid (RowP wy w1.heap.size l2 (wantL (xs.take j) ++ (List.range kk).map (plc ag))) ∧ Hid (Below w1.heap.size w1 wy)) (fun _ kv _ => n - (intOf kv).toNat)
            case atStart => exact ⟨0, Nat.zero_le _, rfl, hide (by simpa using V2.out), KB⟩
            case round =>
              obtain ⟨kk, hk, rfl, RV, RB⟩ := hrel
              obtain ⟨al2, nl2, cl2, rfl, hnl2⟩ := RV.out.shapeN
              replace hnl2 := hide hnl2
              by_cases hk2 : kk < n
              · have q3 : (kk : Int) < (n : Int) := by omega
                have hr2 := hcell.out wr RB.out
                rw [← hag.out] at hr2
                have d1 : wr.cell? ⟨b0, o0 + j * 8 + 1, none⟩ = some (.int .i64 t) := hr2 1 _ rfl
                have d2 : wr.cell? ⟨b0, o0 + j * 8 + 2, none⟩ = some (.int .i64 l) := hr2 2 _ rfl
                have d3 : wr.cell? ⟨b0, o0 + j * 8 + 3, none⟩ = some (.int .i64 bb) := hr2 3 _ rfl
                have d4 : wr.cell? ⟨b0, o0 + j * 8 + 4, none⟩ = some (.int .i64 r0) := hr2 4 _ rfl
                obtain ⟨p1, hp1⟩ : ∃ p1, t + (kk : Int) / (r0 - l + 1) = p1 := ⟨_, rfl⟩
                obtain ⟨p2, hp2⟩ : ∃ p2, l + (kk : Int) % (r0 - l + 1) = p2 := ⟨_, rfl⟩
                have HA1 := HAt.out kk hk2
                have hpk := hplc.out kk
                rw [hp1, hp2] at HA1 hpk
                replace HA1 := hide HA1
                have hsn : Hid ((wantL (xs.take j) ++ (List.range kk).map (plc ag)) ++ [(p1, p2)] = wantL (xs.take j) ++ (List.range (kk + 1)).map (plc ag)) := hide (by rw [List.range_succ, List.map_append, List.append_assoc]; simp [hpk])
                have hle2 : Hid ((wantL (xs.take j) ++ (List.range kk).map (plc ag)).length < 1000000) := hide (by rw [List.length_append, List.length_map, List.length_range]; have := hlen.out; omega)
                have hz2 : Hid (w1.heap.size ≤ wr.heap.size) := hide RB.out.size
                have hk1 : Hid ((intOf (.int .i64 ((kk : Int) + 1))).toNat = kk + 1) := hide rfl
                have hk3 : Hid ((intOf (.int .i64 (kk : Int))).toNat = kk) := hide rfl
                clear hr2 hpk hp1 hp2
                go_wp2_with fail
                refine (HA1.out _).mono ?_
                rintro e w3 ⟨rfl, hb3⟩
                have K3 := hide (RB.out.trans (hb3.mono hz2.out))
                have hz3 : Hid (w1.heap.size ≤ w3.heap.size) := hide K3.out.size
                have R3 := hide (((RV.out.keep hb3).keep (step (Below.refl w3.heap.size w3) (.cells #[.int .i64 p1, .int .i64 p2] 39))).keep (step (Below.refl _ _) (.cells #[.int .i64 p1, .int .i64 p2] 39)))
                have K4 := hide ((K3.out.alloc hz3.out (.cells #[.int .i64 p1, .int .i64 p2] 39)).alloc (Nat.le_trans hz3.out (by simp)) (.cells #[.int .i64 p1, .int .i64 p2] 39))
                have hBB : Hid (w1.heap.size ≤ ((w3.alloc (.cells #[.int .i64 p1, .int .i64 p2] 39)).alloc (.cells #[.int .i64 p1, .int .i64 p2] 39)).heap.size) := hide (Nat.le_trans hz3.out (by simp; omega))
                have hrg : Hid (((w3.alloc (.cells #[.int .i64 p1, .int .i64 p2] 39)).alloc (.cells #[.int .i64 p1, .int .i64 p2] 39)).rangeAt (w3.heap.size + 1) 0 (spL (p1, p2))) := hide (fun jj u hu => by
                  have hb := T9.Blk.new1 w3 (.cells #[.int .i64 p1, .int .i64 p2] 39) #[.int .i64 p1, .int .i64 p2] 39
                  rw [hb.at', Nat.zero_add]
                  simpa using hu)
                clear hb3 d1 d2 d3 d4
                go_wp2_with (refine wpList_appP rfl _ _ rfl rfl rfl R3.out (p1, p2) hrg.out hle2.out hBB.out ?_; intro v5 w5 g1 g2 g3)
                rw [hsn.out] at g1
                refine ⟨⟨kk + 1, hk2, rfl, hide g1, hide ?_⟩, ?_⟩
                · exact ⟨g2.os.trans K4.out.os, g2.tape.trans K4.out.tape, g2.output.trans K4.out.output, Nat.le_trans K4.out.size g2.size, fun k hk => (g2.block k (Nat.lt_of_lt_of_le hk hBB.out) (fun e => by have := (owns_lt R3.out k e.symm).1; omega)).trans (K4.out.block k hk)⟩
                · rw [hk1.out, hk3.out]; omega
              · obtain rfl : n = kk := by omega
                go_wp2_with fail
                refine ⟨⟨j + 1, _, _, hlt, rfl, rfl, rfl, hide (by rw [hcG.out, hG.out]; simp), hide (by rw [hcM.out, hM.out]; simp), hide (by rw [hwn.out]; exact RV.out), hide (hA'.out (fun _ => hagk.out)), RB⟩, ?_⟩
                rw [hm1.out, hm2.out]; omega
        · rw [T3.eA_no ho] at HMr
          have HZ := hide (fun w => T3.rsize_bad t l bb r0 w HMr)
          clear ho HMr
          go_wp2_with fail
          refine (HZ.out _).mono ?_
          rintro e w2 ⟨rfl, hb2⟩
          have K2 := hide (next (next K1.out HB.out) hb2)
          clear hb2 a0 a1 a2 a3 a4 a5
          go_wp2_with fail
          go_ret
          exact ⟨rfl, K2.out⟩
    · obtain rfl : j = 20 := by omega
      have htk : Hid (xs.take 20 = xs) := hide (by rw [← hm.out]; exact List.take_length)
      rw [htk.out] at hG hM HV hA hnl
      have KR := hide (next K1.out HB.out)
      have A1 := hide (args_below h1.out HB.out)
      clear HB hz h1 hlt hj htk
      have hx0 : Hid (0 < xs.length ∧ xs.length ≤ 20) := hide (by have := hm.out; omega)
      by_cases hw : 69000 < nl
      · have p1 : (69000 : Int) < (nl : Int) := by omega
        go_wp2_with fail
        go_ret
        exact ⟨rfl, KR.out⟩
      have p1 : ¬ (69000 : Int) < (nl : Int) := by omega
      have hwl : Hid ((wantL xs).length ≤ 69000) := hide (by have := hnl.out; omega)
      clear hw
      by_cases hbad : ∃ a ∈ xs, a.is = false ∧ ¬ Good a.v.k a.v.i a.v.t
      · have hok2 : ∀ a ∈ xs, AgOk a ∨ (a.is = false ∧ ¬ Good a.v.k a.v.i a.v.t) := fun x hx => by
          cases hx1 : x.is with
          | true => exact .inl (hA.out x hx hx1)
          | false =>
            by_cases hg : Good x.v.k x.v.i x.v.t
            · left; unfold AgOk; rw [if_neg (by simp [hx1])]; exact ⟨hg, hbd.out x hx⟩
            · exact .inr ⟨rfl, hg⟩
        have C57 := run_obad 57 _ info57 xs hx0.out.1 hx0.out.2 hok2 hbad wr _ cap A1.out
        have C58 := fun w h => run_obad 58 _ info58 xs hx0.out.1 hx0.out.2 hok2 hbad w (some ⟨b0, o0, none⟩) cap h
        rw [hm.out] at C57
        rw [hm.out] at C58
        replace C57 := hide C57
        replace C58 := hide C58
        clear hok2 hbad
        go_wp2_with fail
        refine C57.out.mono ?_
        rintro e w2 ⟨rfl, hb2⟩
        have K2 := hide (step (next KR.out hb2) (vO 0 0 no))
        have C5 := hide (C58.out _ (args_below (args_below A1.out hb2) (step (Below.refl w2.heap.size w2) (vO 0 0 no))))
        clear hb2
        go_wp2_with fail
        refine C5.out.mono ?_
        rintro e w3 ⟨rfl, hb3⟩
        have K3 := hide (step (next K2.out hb3) (vO 0 0 no))
        clear hb3
        go_wp2_with fail
        go_ret
        exact ⟨rfl, K3.out⟩
      · have hok2 : ∀ a ∈ xs, AgOk a := fun x hx => by
          cases hx1 : x.is with
          | true => exact hA.out x hx hx1
          | false =>
            by_cases hg : Good x.v.k x.v.i x.v.t
            · unfold AgOk; rw [if_neg (by simp [hx1])]; exact ⟨hg, hbd.out x hx⟩
            · exact absurd ⟨x, hx, hx1, hg⟩ hbad
        have C57 := run_ord 57 _ (fun x => !(x.k == 0)) countFilled_mkis _ info57 idx57 true rfl xs hx0.out.1 hx0.out.2 hok2 hwl.out wr _ cap A1.out
        have C58 := fun w h => run_ord 58 _ (fun x => x.k == 0) countBlank_mkis _ info58 idx58 false rfl xs hx0.out.1 hx0.out.2 hok2 hwl.out w (some ⟨b0, o0, none⟩) cap h
        obtain ⟨E7, hE7⟩ : ∃ E7 : Int, (((if true then (wantL xs).length else 0) + cntG (fun x => !(x.k == 0)) xs : Nat) : Int) = E7 := ⟨_, rfl⟩
        obtain ⟨E8, hE8⟩ : ∃ E8 : Int, (((if false then (wantL xs).length else 0) + cntG (fun x => x.k == 0) xs : Nat) : Int) = E8 := ⟨_, rfl⟩
        rw [hm.out, hE7] at C57
        rw [hm.out, hE8] at C58
        have hc2 := cntG_two xs
        have cl1 := cntG_le (fun x => !(x.k == 0)) xs
        have cl2 := cntG_le (fun _ => true) xs
        have hw7 : wrap64 ((nl : Int) + M) = E7 := by
          have e : (nl : Int) + M = E7 := by rw [← hE7, hM.out, hnl.out]; simp
          rw [e]
          exact IntWalk.wrap64_in _ ⟨by rw [← hE7]; omega, by rw [← e, hM.out]; have := hx0.out.2; omega⟩
        have hw8 : wrap64 (G - M) = E8 := by
          have e : G - M = E8 := by rw [← hE8, hG.out, hM.out, ← hc2]; simp; omega
          rw [e]
          exact IntWalk.wrap64_in _ ⟨by rw [← hE8]; omega, by rw [← e, hG.out, hM.out]; have := hx0.out.2; omega⟩
        replace C57 := hide C57
        replace C58 := hide C58
        replace hw7 := hide hw7
        replace hw8 := hide hw8
        clear hok2 hbad hE7 hE8 hc2 cl1 cl2
        go_wp2_with fail
        refine C57.out.mono ?_
        rintro e w2 ⟨v2, rfl, r2, hb2⟩
        obtain ⟨a2, n2, c2, rfl, hn2⟩ := r2.shapeN
        have hn2' : nl = n2 := by rw [hn2, hnl.out]
        subst hn2'
        clear hn2
        have K2 := hide (step (next KR.out hb2) (vO 1 E7 no))
        have C5 := hide (C58.out _ (args_below (args_below A1.out hb2) (step (Below.refl w2.heap.size w2) (vO 1 E7 no))))
        have X2 := hide (Blk.new w2 #[.int .i64 1, .int .i64 E7, .string no] 28)
        have L2 := hide (r2.keep (step (Below.refl w2.heap.size w2) (vO 1 E7 no)))
        have W2 := hide ((HV.out.keep hb2).keep (step (Below.refl w2.heap.size w2) (vO 1 E7 no)))
        clear hb2 r2 HV
        go_wp2_with fail
        refine C5.out.mono ?_
        rintro e w3 ⟨v3, rfl, r3, hb3⟩
        obtain ⟨a3, n3, c3, rfl, hn3⟩ := r3.shapeN
        have hn3' : nl = n3 := by rw [hn3, hnl.out]
        subst hn3'
        clear hn3
        have KF := hide (step (next K2.out hb3) (vO 1 E8 no))
        have X3 := hide ((X2.out.keep hb3).alloc (vO 1 E8 no))
        have Y3 := hide (Blk.new w3 #[.int .i64 1, .int .i64 E8, .string no] 28)
        have L3 := hide ((L2.out.keep hb3).keep (step (Below.refl w3.heap.size w3) (vO 1 E8 no)))
        have W3 := hide ((W2.out.keep hb3).keep (step (Below.refl w3.heap.size w3) (vO 1 E8 no)))
        have M3 := hide (r3.keep (step (Below.refl w3.heap.size w3) (vO 1 E8 no)))
        clear hb3 r3 L2 W2 X2 C57 C58 C5 A1
        obtain ⟨X, hX⟩ : ∃ X, w2.heap.size = X := ⟨_, rfl⟩
        obtain ⟨Y, hY⟩ : ∃ Y, w3.heap.size = Y := ⟨_, rfl⟩
        rw [hX] at X3
        rw [hY] at Y3
        go_upto_region 28 with fail
        obtain ⟨wf, hwf⟩ : ∃ wf, w3.alloc (.cells #[.int .i64 1, .int .i64 E8, .string no] 28) = wf := ⟨_, rfl⟩
        simp only [vO] at KF X3 Y3 L3 W3 M3
        rw [hwf] at KF X3 Y3 L3 W3 M3 ⊢
        clear hwf
        have x0 : wf.cell? ⟨X, 0, none⟩ = some (.int .i64 1) := X3.out.at' 0
        have x1 : wf.cell? ⟨X, 1, none⟩ = some (.int .i64 E7) := X3.out.at' 1
        have x2 : wf.cell? ⟨X, 2, none⟩ = some (.string no) := X3.out.at' 2
        have y0 : wf.cell? ⟨Y, 0, none⟩ = some (.int .i64 1) := Y3.out.at' 0
        have y1 : wf.cell? ⟨Y, 1, none⟩ = some (.int .i64 E8) := Y3.out.at' 1
        have y2 : wf.cell? ⟨Y, 2, none⟩ = some (.string no) := Y3.out.at' 2
        replace x0 := cell_regrown x0
        replace x1 := cell_regrown x1
        replace x2 := cell_regrown x2
        replace y0 := cell_regrown y0
        replace y1 := cell_regrown y1
        replace y2 := cell_regrown y2
        have z7 := hw7.out
        have z8 := hw8.out
        have e7 := va_neq1 E7
        have e8 := va_neq1 E8
        have kq0 := fun d' os => Calls.regrown_of ((lnum_is E7).out (grow (redrawn wf d') os))
        have kq1 := fun d' os => Calls.regrown_of ((lnum_is E8).out (grow (redrawn wf d') os))
        refine wp_region_quiet_below (by kernel_rfl) (by kernel_rfl) ?_
        repeat (go_big_quiet_step (first | (with_reducible exact kq0 _ _) | (with_reducible exact kq1 _ _)))
        refine wpQuiet_nil ?_
        intro wq hwq
        have hbq : Hid (Below wf.heap.size wf wq) := hide (by obtain ⟨⟨dq, osq⟩, hq⟩ := hwq; rw [hq]; exact below_regrown _ dq osq)
        clear hwq x0 x1 x2 y0 y1 y2 z7 z8 kq0 kq1 e7 e8
        go_wp2_with fail
        go_loopw [17] (fun v wz => ∃ q : Nat, q ≤ nl ∧ v = .int .i64 (q : Int) ∧ Hid (Below wf.heap.size wf wz)) (fun v _ => nl - (intOf v).toNat)
        case atStart => exact ⟨0, Nat.zero_le _, rfl, hbq⟩
        case round =>
          obtain ⟨q, hq, rfl, HB⟩ := hrel
          by_cases hlt2 : q < nl
          · have p5 : (q : Int) < (nl : Int) := by omega
            have hql : q < (wantL xs).length := by rw [← hnl.out]; exact hlt2
            obtain ⟨gl, rfl, hgl⟩ := L3.out.at (by omega)
            obtain ⟨gm, rfl, hgm⟩ := M3.out.at (by omega)
            obtain ⟨gw, rfl, hgw⟩ := W3.out.at (by omega)
            obtain ⟨⟨s1, s2⟩, hs⟩ : ∃ p, (wantL xs)[q]? = some p := ⟨_, List.getElem?_eq_getElem hql⟩
            have c0 := cell_regrown (keep1 HB.out (hgl q _ hs).1)
            have c1 := cell_regrown (keep1 HB.out (hgl q _ hs).2)
            have c2' := cell_regrown (keep1 HB.out (hgm q _ hs).1)
            have c3' := cell_regrown (keep1 HB.out (hgm q _ hs).2)
            have c4 := cell_regrown (keep1 HB.out (hgw q _ hs).1)
            have c5 := cell_regrown (keep1 HB.out (hgw q _ hs).2)
            simp only at c0 c1 c2' c3' c4 c5
            have hnq := sp_neq2 s1 s2
            have hm3 : Hid ((intOf (.int .i64 ((q : Int) + 1))).toNat = q + 1) := hide rfl
            have hm4 : Hid ((intOf (.int .i64 (q : Int))).toNat = q) := hide rfl
            clear hgl hgm hgw hs hql
            go_upto_region 33 with fail
            refine wp_region_quiet_below (by kernel_rfl) (by kernel_rfl) ?_
            repeat (go_big_quiet_step (fail))
            refine wpQuiet_nil ?_
            intro wq2 hwq2
            have hb2 : Below wr.heap.size wr wq2 := by obtain ⟨⟨dq, osq⟩, hq⟩ := hwq2; rw [hq]; exact below_regrown _ dq osq
            have HB2 := hide (next HB.out hb2)
            clear hwq2 hb2 c0 c1 c2' c3' c4 c5
            go_wp2_with fail
            refine ⟨⟨q + 1, hlt2, rfl, HB2⟩, ?_⟩
            rw [hm3.out, hm4.out]
            omega
          · obtain rfl : q = nl := by omega
            go_wp2_with fail
            go_ret
            exact ⟨rfl, next KF.out HB.out⟩
end Go.Proofs.YtchphbclaapfhaaGreatDoor
