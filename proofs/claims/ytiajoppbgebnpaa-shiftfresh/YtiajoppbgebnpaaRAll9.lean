/- quadrilleref9.all, May, Same, Copy: what they answer of every tree. -/
import Derived.Test.YtiajoppbgebnpaaRWg9
import Derived.Test.YtiajoppbgebnpaaRFJ
import Derived.Test.YtiajoppbgebnpaaRoJ
import Derived.Test.YtiajoppbgebnpaaEq9
namespace Go.Proofs.Ytiajoppbgebnpaa
open Go.RowKit Go.Sort
set_option linter.unusedVariables false

abbrev RAllIs (t : Ex) : Prop := ∀ (v : Value) (w : World), Tree w v t → Calls Try.prog 44 #[v] w fun e w' => e = .returned (.bool (allE t)) ∧ Below w.heap.size w w'
theorem allL_drop (ks : List Ex) (k : Nat) (hk : k < ks.length) : allL (ks.drop k) = (allE ks[k] && allL (ks.drop (k + 1))) := by
  rw [List.drop_eq_getElem_cons hk, allL]
set_option maxHeartbeats 1000000 in
set_option maxRecDepth 100000 in
theorem rall_any : ∀ t, RAllIs t := by
  refine Ex.ind fun nd ks ih => ?_
  intro v w ht
  obtain ⟨a, len, cap, rfl, _, _, _, _⟩ := ht.un
  have hK := ht.kidsAt
  have hlen := hide hK.lq
  have hsml := hide hK.small
  have c13 := (at14 nd (.slice a len cap)).c13
  have P0 := hide (Blk.new w (exC nd (.slice a len cap)) 37)
  have B0 := hide (step (Below.refl w.heap.size w) (exO nd (.slice a len cap)))
  have HF := hide (rfits_any nd a len cap hsml.out (w.alloc (exO nd (.slice a len cap))))
  have hE : allE (.mk nd ks) = (toldB nd len && allL ks) := by rw [allE, ← hlen.out]
  rw [hE]
  replace ih := hide ih
  replace hK := hide hK
  clear hE ht
  cases hq : toldB nd len
  · rw [hq] at HF
    go_enter Try.func44, Try.ntmps44
    go_wp2_with (first
      | (refine wpList_load_blk rfl 37 _ rfl _ rfl _ (by with_reducible exact P0.out) _ Try.underlying37 rfl (exC_info _ _) ?_)
      | (go_at_call 55; refine HF.out.mono ?_; rintro e w1 ⟨rfl, hb⟩; have b1 := hide (next B0.out hb); clear hb))
    go_ret
    exact ⟨rfl, b1.out⟩
  · rw [hq] at HF
    go_enter Try.func44, Try.ntmps44
    go_wp2_with (first
      | (refine wpList_load_blk rfl 37 _ rfl _ rfl _ (by with_reducible exact P0.out) _ Try.underlying37 rfl (exC_info _ _) ?_)
      | (go_at_call 55; refine HF.out.mono ?_; rintro e w1 ⟨rfl, hb⟩; have b1 := hide (next B0.out hb); have P1 := hide (P0.out.keep hb); clear hb))
    go_loopw [3] (fun i wr => ∃ (k : Nat), k ≤ len ∧ i = .int .i64 k ∧ Hid (allL ks = allL (ks.drop k)) ∧ Hid (Below w1.heap.size w1 wr)) (fun i _ => len - (intOf i).toNat)
    case atStart => exact ⟨0, Nat.zero_le _, rfl, by rw [List.drop_zero]; rfl, Below.refl _ _⟩
    case round =>
      obtain ⟨k, hkl, rfl, HL, HB⟩ := hrel
      have z13 := ((P1.out.keep HB.out).at' 13).trans c13
      by_cases hlt : k < len
      · have p0 : (k : Int) < (len : Int) := by omega
        obtain ⟨b0, o0, rfl, hk1, aa, ll, cc, tk, rk⟩ := hK.out.get hlt
        have bw := hide (next b1.out HB.out)
        have R1 := hide (range_of_block rk (bw.out.block b0 (World.block_lt_of_cell? w ⟨b0, _, none⟩ (rk 0 _ rfl))))
        have IH := ih.out _ (List.getElem_mem hk1) _ wr (tk.step bw.out)
        have hat := hide (allL_drop ks k hk1)
        have wk := IntWalk.wrap64_in ((k : Int) + 1) ⟨by omega, by have := hsml.out; omega⟩
        generalize ks[k] = tk' at *
        clear tk rk
        cases hq2 : allE tk'
        · rw [hq2] at IH
          replace IH := hide IH
          go_wp2_with (first
            | (refine wpList_load_at rfl 37 _ rfl _ _ rfl _ _ (by with_reducible exact R1.out) Try.underlying37 rfl (exC_info _ _) ?_)
            | (go_at_call 44; refine IH.out.mono ?_; rintro e w4 ⟨rfl, hb4⟩; have b4 := hide (next bw.out hb4); clear hb4))
          go_ret
          have hh := HL.out.trans hat.out
          rw [hq2] at hh
          exact ⟨by rw [hh]; rfl, b4.out⟩
        · rw [hq2] at IH
          replace IH := hide IH
          go_wp2_with (first
            | (refine wpList_load_at rfl 37 _ rfl _ _ rfl _ _ (by with_reducible exact R1.out) Try.underlying37 rfl (exC_info _ _) ?_)
            | (go_at_call 44; refine IH.out.mono ?_; rintro e w4 ⟨rfl, hb4⟩; have b4 := hide (next HB.out hb4); clear hb4))
          refine ⟨⟨k + 1, hlt, by rw [wk]; rfl, hide (by rw [HL.out, hat.out, hq2]; rfl), b4⟩, ?_⟩
          rw [wk]
          exact meas_lt hlt
      · obtain rfl : k = len := by omega
        go_wp2_with fail
        go_ret
        have hh := HL.out
        rw [List.drop_eq_nil_of_le (by have := hlen.out; omega)] at hh
        exact ⟨by rw [hh]; rfl, next b1.out HB.out⟩
theorem size_great {t : Ex} (h : fitB t = false) : (sizeR t).1 = 513 := by rw [sizeR_no h]
theorem size_fine {t : Ex} (h : fitB t = true) : ¬ (512 < (sizeR t).1) := by
  have := sizeR_fst t
  rw [h] at this
  exact of_decide_eq_false this
set_option maxHeartbeats 1000000 in
set_option maxRecDepth 100000 in
theorem rmay_any (t : Ex) (v : Value) (w : World) (ht : Tree w v t) : Calls Try.prog 34 #[v] w fun e w' => e = .returned (.int .i64 (mayR t)) ∧ Below w.heap.size w w' := by
  obtain ⟨nd, ks⟩ := t
  obtain ⟨a, len, cap, rfl, _, _, _, _⟩ := ht.un
  have P0 := hide (Blk.new w (exC nd (.slice a len cap)) 37)
  have B0 := hide (step (Below.refl w.heap.size w) (exO nd (.slice a len cap)))
  have HS := hide (rsize_any (.mk nd ks) _ _ (ht.step B0.out))
  have HA := hide (fun w' (h : Below w.heap.size w w') => rall_any (.mk nd ks) _ w' (ht.step h))
  clear ht
  cases hf : fitB (.mk nd ks)
  · have q1 := size_great hf
    rw [mayR_no hf]
    generalize sizeR (.mk nd ks) = S at *
    clear HA hf
    go_enter Try.func34, Try.ntmps34
    go_wp2_with (first
      | (refine wpList_load_blk rfl 37 _ rfl _ rfl _ (by with_reducible exact P0.out) _ Try.underlying37 rfl (exC_info _ _) ?_)
      | (go_at_call 43; refine HS.out.mono ?_; rintro e w1 ⟨rfl, hb⟩; have b1 := hide (next B0.out hb); clear hb))
    go_ret
    exact ⟨rfl, b1.out⟩
  · have q1 := size_fine hf
    cases ha : allE (.mk nd ks)
    · rw [mayR_two hf ha]
      rw [ha] at HA
      generalize sizeR (.mk nd ks) = S at *
      clear hf ha
      go_enter Try.func34, Try.ntmps34
      go_wp2_with (first
        | (refine wpList_load_blk rfl 37 _ rfl _ rfl _ (by with_reducible exact P0.out) _ Try.underlying37 rfl (exC_info _ _) ?_)
        | (go_at_call 43; refine HS.out.mono ?_; rintro e w1 ⟨rfl, hb⟩; have b1 := hide (next B0.out hb); have P1 := hide (P0.out.keep hb); clear hb)
        | (refine wpList_load_blk rfl 37 _ rfl _ rfl _ (by with_reducible exact P1.out) _ Try.underlying37 rfl (exC_info _ _) ?_)
        | (go_at_call 44; refine (HA.out _ b1.out).mono ?_; rintro e w2 ⟨rfl, hb⟩; have b2 := hide (next b1.out hb); clear hb))
      go_ret
      exact ⟨rfl, b2.out⟩
    · rw [mayR_ok hf ha]
      rw [ha] at HA
      generalize sizeR (.mk nd ks) = S at *
      clear hf ha
      go_enter Try.func34, Try.ntmps34
      go_wp2_with (first
        | (refine wpList_load_blk rfl 37 _ rfl _ rfl _ (by with_reducible exact P0.out) _ Try.underlying37 rfl (exC_info _ _) ?_)
        | (go_at_call 43; refine HS.out.mono ?_; rintro e w1 ⟨rfl, hb⟩; have b1 := hide (next B0.out hb); have P1 := hide (P0.out.keep hb); clear hb)
        | (refine wpList_load_blk rfl 37 _ rfl _ rfl _ (by with_reducible exact P1.out) _ Try.underlying37 rfl (exC_info _ _) ?_)
        | (go_at_call 44; refine (HA.out _ b1.out).mono ?_; rintro e w2 ⟨rfl, hb⟩; have b2 := hide (next b1.out hb); clear hb))
      go_ret
      exact ⟨rfl, b2.out⟩
end Go.Proofs.Ytiajoppbgebnpaa
