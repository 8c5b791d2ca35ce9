/- PrintKids: the law's walk, for every tree. -/
import Derived.Test.YtnfoknifofglbaaDoorBin11
import Derived.Test.YtnfoknifofglbaaDoorRWg9
namespace Go.Proofs.YtnfoknifofglbaaDoor
open T9
open Go.RowKit Go.Sort
set_option linter.unusedVariables false

namespace T9
theorem forV_ok {t : Ex} (h : mayR t = 0) : forV t = .tuple #[.string (ba (61 :: txE t)), .int .i64 0] := by unfold forV; rw [if_pos h]
theorem forV_no {t : Ex} (h : ¬ mayR t = 0) : forV t = .tuple #[.string no, .int .i64 (mayR t)] := by unfold forV; rw [if_neg h]
theorem size_le {t : Ex} (h : mayR t = 0) : ¬ 512 < (sizeR t).1 := by
  have hf := (may_all h).1
  rw [sizeR_fit hf]
  have := of_decide_eq_true hf
  show ¬ (512 : Int) < (nodesE t : Int)
  omega
theorem ba_cut (S : List UInt8) (q n : Nat) : (ba S).extract q (q + n) = ba ((S.drop q).take n) := by
  apply ByteArray.ext
  apply Array.ext'
  rw [Lib.extract_data]
  simp [List.take_drop]
theorem ba_tail (K : List UInt8) : (ba (61 :: K)).extract 1 (K.length + 1) = ba K := by
  rw [Nat.add_comm, ba_cut]
  simp
theorem occ_next {S K : List UInt8} {R : List (List UInt8)} {q : Nat} (h : Occ (S.drop q) (K :: R)) (hq : q ≤ S.length) : q + K.length ≤ S.length := by
  have := h.here
  rw [List.length_drop] at this
  omega
theorem occ_lt {S K : List UInt8} {R : List (List UInt8)} {q : Nat} (h : Occ (S.drop q) (K :: R)) (hc : ¬ (S.drop q).take K.length = K) (hq : q ≤ S.length) : q < S.length := by
  rcases Nat.lt_or_ge q S.length with h' | h'
  · exact h'
  · exfalso
    have e : S.drop q = [] := List.drop_eq_nil_of_le h'
    have := h.here
    rw [e] at this hc
    have hk : K = [] := List.eq_nil_of_length_eq_zero (by simpa using this)
    exact hc (by rw [hk]; rfl)
theorem tl_no {a b : ByteArray} (h : ¬ a = b) : (a.toList == b.toList) = false := by
  rw [beq_eq_false_iff_ne]
  intro e
  rw [ByteArray.toList_eq, ByteArray.toList_eq] at e
  exact h (ByteArray.ext (Array.ext' e))
theorem gt_not {q k s : Nat} (h : q + k ≤ s) : ¬ (s : Int) < (q : Int) + (k : Int) := by omega
theorem slice_run (bs : ByteArray) (q k : Nat) (h : q + k ≤ bs.size) (w : World) : (Instr.slice 9 (.string bs) (some (.int .i64 (q : Int))) (some (.int .i64 ((q : Int) + (k : Int)))) none).run Tryd.prog w = .ok (.string (bs.extract q (q + k))) w := by
  rw [run_slice_string w 9 bs .i64 .i64 (q : Int) ((q : Int) + (k : Int)) Tryd.underlying9 (by omega) (by omega) (by omega)]
  rw [show ((q : Int) + (k : Int)).toNat = q + k by omega, Int.toNat_natCast]
theorem le_cast {q k s : Nat} (h : q + k ≤ s) : (q : Int) + (k : Int) ≤ (s : Int) := by omega
theorem wrap_add {q k s : Nat} (h : q + k ≤ s) (hs : s ≤ 65536) : wrap64 ((q : Int) + (k : Int)) = (q : Int) + (k : Int) := IntWalk.wrap64_in _ ⟨by omega, by omega⟩
theorem wrap_one {q s : Nat} (h : q ≤ s) (hs : s ≤ 65536) : wrap64 ((q : Int) + 1) = (q : Int) + 1 := IntWalk.wrap64_in _ ⟨by omega, by omega⟩
theorem wrap_len {q s : Nat} (h : q < s) (hs : s ≤ 4611686018427387904) : wrap64 ((q : Int) + 1) = (q : Int) + 1 := IntWalk.wrap64_in _ ⟨by omega, by omega⟩
theorem lt_cast {q s : Nat} (h : q < s) : (q : Int) < (s : Int) := by omega
theorem size_tail (K : List UInt8) : ((ba (61 :: K)).size : Int) = K.length + 1 := by rw [ba_size]; simp
theorem short_kid {S K : List UInt8} {R : List (List UInt8)} {q : Nat} (h : Occ (S.drop q) (K :: R)) (hq : q ≤ S.length) (hs : 1 ≤ S.length ∧ S.length ≤ 65536) : K.length ≤ 65536 := by
  have := occ_next h hq
  omega
set_option maxHeartbeats 4000000 in
set_option maxRecDepth 100000 in
theorem printKids_walk (t : Ex) (v : Value) (w : World) (hl : Lay11 w) (ht : Tree w v t) (hN : NumE t) : Calls Tryd.prog 3 #[v] w fun e w' => e = .returned (.bool true) ∧ Below w.heap.size w w' := by
  have HB := hide (fun w' (hb : Below w.heap.size w w') => begun11 w' (hl.keep hb))
  have HS := hide (fun w' (hb : Below w.heap.size w w') => rsize_any t v w' (ht.step hb))
  have HF := hide (fun w' (hb : Below w.heap.size w w') => formula_any t v w' (ht.step hb) (hl.keep hb) hN)
  obtain ⟨nd, ks⟩ := t
  obtain ⟨a, len, cap, rfl, hlen, hll, _, _⟩ := ht.un
  have P0 := hide (Blk.new w (exC nd (.slice a len cap)) 26)
  have B0 := hide (step (Below.refl w.heap.size w) (exO nd (.slice a len cap)))
  obtain ⟨⟨z1, z2, z3⟩, hz⟩ : ∃ r, sizeR (.mk nd ks) = r := ⟨_, rfl⟩
  have hsz := hide (@size_le (.mk nd ks))
  rw [hz] at HS hsz
  have hK := hide ht.kidsAt
  have c13 := (at14 nd (.slice a len cap)).c13
  by_cases hm : mayR (.mk nd ks) = 0
  · rw [forV_ok hm] at HF
    have hz1 : ¬ 512 < z1 := hsz.out hm
    have hs := txE_short hm hN
    have hkF := hide (fun j (hj : j < ks.length) (v' : Value) w' (hb : Below w.heap.size w w') (h : Tree w v' ks[j]) => formula_any ks[j] v' w' (h.step hb) (hl.keep hb) (num_kid hN.2 (List.getElem_mem hj)))
    have hkm := hide (fun j (hj : j < ks.length) => @forV_ok ks[j] (may_kid hm (List.getElem_mem hj)))
    have ho : Hid (Occ ((61 :: txE (.mk nd ks)).drop 1) ((ks.drop 0).map txE)) := hide (by
      have ha := (may_all hm).2
      rw [allE, Bool.and_eq_true] at ha
      simpa using node_occ nd ks ha.1)
    obtain ⟨S, hS⟩ : ∃ S, (61 :: txE (.mk nd ks)) = S := ⟨_, rfl⟩
    have hSl : Hid (1 ≤ S.length ∧ S.length ≤ 65536) := hide (by rw [← hS]; simp; omega)
    rw [hS] at HF ho
    obtain ⟨bs, hbs⟩ : ∃ bs, ba S = bs := ⟨_, rfl⟩
    rw [hbs] at HF
    have z1 : bs.size = S.length := by rw [← hbs]; exact ba_size S
    replace hbs := hide hbs
    clear hS hs hsz ht hl hN hm hz
    go_enter Tryd.func3, Tryd.ntmps3
    go_wp2_with (first
      | (refine wpList_load_blk rfl 26 _ rfl _ rfl _ (by with_reducible exact P2.out) _ Tryd.underlying26 rfl (exC_info _ _) ?_)
      | (refine wpList_load_blk rfl 26 _ rfl _ rfl _ (by with_reducible exact P1.out) _ Tryd.underlying26 rfl (exC_info _ _) ?_)
      | (go_at_call 8; refine (HF.out _ B2.out).mono ?_; rintro e w3 ⟨rfl, hb⟩; have B3 := hide (next B2.out hb); have P3 := hide (P2.out.keep hb); clear hb)
      | (go_at_call 7; refine (HS.out _ B1.out).mono ?_; rintro e w2 ⟨rfl, hb⟩; have B2 := hide (next B1.out hb); have P2 := hide (P1.out.keep hb); clear hb)
      | (go_at_call 6; refine (HB.out _ B0.out).mono ?_; rintro e w1 ⟨rfl, hb⟩; have B1 := hide (next B0.out hb); have P1 := hide (P0.out.keep hb); clear hb))
    go_loopw [8, 9] (fun at' i wr => ∃ (p j : Nat), j ≤ len ∧ at' = .int .i64 p ∧ i = .int .i64 j ∧ Hid (Below w3.heap.size w3 wr) ∧ Hid (p ≤ S.length) ∧ Hid (Occ (S.drop p) ((ks.drop j).map txE))) (fun _ i _ => len - (intOf i).toNat)
    case atStart => exact ⟨1, 0, Nat.zero_le _, rfl, rfl, Below.refl _ _, hide hSl.out.1, ho⟩
    case round =>
      obtain ⟨p, j, hjl, rfl, rfl, HBr, hp, HO⟩ := hrel
      have bw := hide (next B3.out HBr.out)
      have PB := hide (P3.out.keep HBr.out)
      have d13 := (PB.out.at' 13).trans c13
      by_cases hlt : j < len
      · have p0 := lt_cast hlt
        obtain ⟨g, o, rfl, hki, ka, kl, kc, tk, rk⟩ := hK.out.get hlt
        have R1 := hide (range_of_block rk (bw.out.block g (World.block_lt_of_cell? w ⟨g, _, none⟩ (rk 0 _ rfl))))
        have HK := hide (hkF.out j hki _ wr bw.out tk)
        rw [hkm.out j hki] at HK
        rw [List.drop_eq_getElem_cons hki, List.map_cons] at HO
        generalize ks[j] = tj at *
        have hKl : Hid ((txE tj).length ≤ 65536) := hide (short_kid HO.out hp.out hSl.out)
        obtain ⟨K, hK2⟩ : ∃ K, txE tj = K := ⟨_, rfl⟩
        rw [hK2] at HK HO hKl
        have wk := wrap_len hlt hll.out
        have x1 := size_tail K
        clear tk rk hK2
        go_wp2_with (first
          | (refine wpList_load_at rfl 26 _ rfl _ _ rfl _ _ (by with_reducible exact R1.out) Tryd.underlying26 rfl (exC_info _ _) ?_)
          | (go_at_call 8; refine HK.out.mono ?_; rintro e w4 ⟨rfl, hb⟩; have B4 := hide (next HBr.out hb); clear hb))
        rw [ba_tail]
        obtain ⟨bk, hbk⟩ : ∃ bk, ba K = bk := ⟨_, rfl⟩
        rw [hbk]
        have z2 : bk.size = K.length := by rw [← hbk]; exact ba_size K
        replace hbk := hide hbk
        clear x1 d13
        go_loopw [8] (fun at' wr' => ∃ (q : Nat), at' = .int .i64 q ∧ wr' = w4 ∧ Hid (q ≤ S.length) ∧ Hid (Occ (S.drop q) (K :: (ks.drop (j + 1)).map txE))) (fun at' _ => S.length - (intOf at').toNat)
        case atStart => exact ⟨p, rfl, rfl, hp, HO⟩
        case round =>
          obtain ⟨q, rfl, rfl, hq, HO2⟩ := hrel
          have hqk := occ_next HO2.out hq.out
          have y0 := decide_eq_true (le_cast hqk)
          have y1 := wrap_add hqk hSl.out.2
          have y2 := wrap_one hq.out hSl.out.2
          have y4 := gt_not hqk
          have y3 := slice_run bs q K.length (by rw [z1]; exact hqk)
          replace hqk := hide hqk
          by_cases hc : (S.drop q).take K.length = K
          · have hx : bs.extract q (q + K.length) = bk := by rw [← hbs.out, ba_cut, hc]; exact hbk.out
            rw [hx] at y3
            clear hx
            replace hc := hide hc
            go_wp2_with fail
            refine ⟨⟨q + K.length, j + 1, hlt, by rw [y1]; rfl, by rw [wk]; rfl, B4, hide hqk.out, hide ?_⟩, ?_⟩
            · have := HO2.out.take hc.out
              rw [List.drop_drop] at this
              exact this
            · rw [wk]
              exact meas_lt hlt
          · obtain ⟨X, hx⟩ : ∃ X, bs.extract q (q + K.length) = X := ⟨_, rfl⟩
            have hne : ¬ X = bk := fun e => hc (by rw [← hx, ← hbs.out, ba_cut, ← hbk.out] at e; have := congrArg (fun s => s.data.toList) e; simpa using this)
            rw [hx] at y3
            replace hx := hide hx
            replace hc := hide hc
            have k1 := tl_no hne
            go_wp2_with fail
            refine ⟨⟨q + 1, by rw [y2]; rfl, by first | rfl | trivial, hide ?_, hide ?_⟩, ?_⟩
            · exact occ_lt HO2.out hc.out hq.out
            · have := HO2.out.on hc.out
              rw [List.drop_drop] at this
              exact this
            · rw [y2]
              exact meas_lt (occ_lt HO2.out hc.out hq.out)
      · obtain rfl : j = len := Nat.le_antisymm hjl (Nat.le_of_not_lt hlt)
        go_wp2_with fail
        go_ret
        exact ⟨rfl, bw.out⟩
  · rw [forV_no hm] at HF
    have hm1 : (mayR (.mk nd ks) == 0) = false := by simpa using hm
    have hm2 : (mayR (.mk nd ks) != 0) = true := by simpa using hm
    generalize mayR (.mk nd ks) = M at *
    clear hsz ht hl hN hz
    go_enter Tryd.func3, Tryd.ntmps3
    go_wp2_with (first
      | (refine wpList_load_blk rfl 26 _ rfl _ rfl _ (by with_reducible exact P2.out) _ Tryd.underlying26 rfl (exC_info _ _) ?_)
      | (refine wpList_load_blk rfl 26 _ rfl _ rfl _ (by with_reducible exact P1.out) _ Tryd.underlying26 rfl (exC_info _ _) ?_)
      | (go_at_call 8; refine (HF.out _ B2.out).mono ?_; rintro e w3 ⟨rfl, hb⟩; have B3 := hide (next B2.out hb); clear hb)
      | (go_at_call 7; refine (HS.out _ B1.out).mono ?_; rintro e w2 ⟨rfl, hb⟩; have B2 := hide (next B1.out hb); have P2 := hide (P1.out.keep hb); clear hb)
      | (go_at_call 6; refine (HB.out _ B0.out).mono ?_; rintro e w1 ⟨rfl, hb⟩; have B1 := hide (next B0.out hb); have P1 := hide (P0.out.keep hb); clear hb))
    go_ret
    exact ⟨rfl, B3.out⟩
end T9
end Go.Proofs.YtnfoknifofglbaaDoor
