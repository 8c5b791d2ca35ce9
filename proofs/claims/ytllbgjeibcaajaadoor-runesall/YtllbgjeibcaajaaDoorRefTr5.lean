/- What the reference's Trim answers, for every text: what runes.Trim answers. Proved of the Go text. -/
import Derived.Test.YtllbgjeibcaajaaDoorTrimMath5
import Derived.Test.YtllbgjeibcaajaaDoorRefRune5
namespace Go.Proofs.YtllbgjeibcaajaaDoor
open Go.RowKit Go.Sort
set_option linter.unusedVariables false

/-- What the reference has put down, a blank that is held with it. -/
def bL (st : List UInt8 × Bool) : List UInt8 := st.1 ++ (if st.2 then [32] else [])
theorem bL_len (l : List UInt8) : (bL (trF l)).length ≤ l.length := by
  have := trF_len l
  unfold bL
  rw [List.length_append]
  split at this <;> simp_all
/-- The step, as the reference takes it. -/
theorem bL_step (l : List UInt8) (c : UInt8) : (c ≠ 32 ∧ bL (trF (l ++ [c])) = bL (trF l) ++ [c]) ∨ (c = 32 ∧ bL (trF l) = [] ∧ bL (trF (l ++ [c])) = bL (trF l)) ∨
    (c = 32 ∧ bL (trF l) ≠ [] ∧ (bL (trF l)).getD ((bL (trF l)).length - 1) 0 = 32 ∧ bL (trF (l ++ [c])) = bL (trF l)) ∨ (c = 32 ∧ bL (trF l) ≠ [] ∧ (bL (trF l)).getD ((bL (trF l)).length - 1) 0 ≠ 32 ∧ bL (trF (l ++ [c])) = bL (trF l) ++ [32]) := by
  have hg := trF_good l
  rw [trF_snoc]
  generalize trF l = st at *
  obtain ⟨L, b⟩ := st
  unfold trStep bL
  by_cases hc : c = 32
  · rw [if_pos hc]
    cases b with
    | true =>
      have hne := hg.2 rfl
      simp only at hne
      refine .inr (.inr (.inl ⟨hc, by simp, ?_, ?_⟩))
      · simp [List.getD]
      · have : L.isEmpty = false := by rw [List.isEmpty_eq_false_iff]; exact hne
        simp [this]
    | false =>
      cases L with
      | nil => exact .inr (.inl ⟨hc, by simp, by simp⟩)
      | cons x r =>
        refine .inr (.inr (.inr ⟨hc, by simp, ?_, by simp⟩))
        intro e
        have := (hg.1 ((x :: r).length - 1) (by simp) (by simpa using e)).2.1
        simp at this
  · rw [if_neg hc]
    refine .inl ⟨hc, ?_⟩
    simp
theorem own_last {w : World} {B n : Nat} {v : Value} {L : List UInt8} (h : w.ownsRow B 5 1 v n (vs L)) (hL : L ≠ []) (hn : n = L.length) : ∃ g c m, v = .slice (some ⟨g, 0, none⟩) (m + 1) c ∧ n = m + 1 ∧ m + 1 ≤ c ∧ ∀ j, j ≤ m → w.cell? ⟨g, j, none⟩ = some (.int .u8 ((L.getD j 0).toNat : Int)) := by
  have hp : 0 < L.length := List.length_pos_iff.2 hL
  obtain ⟨hl, ⟨rfl, h0⟩ | ⟨g, cap, cur, rfl, hb, hg, h1, h2, h3, ht⟩⟩ := h
  · omega
  · refine ⟨g, cap, n - 1, by rw [show n - 1 + 1 = n by omega], by omega, by omega, fun j hj => ?_⟩
    have hw : w.ownsRow B 5 1 (.slice (some ⟨g, 0, none⟩) n cap) n (vs L) := ⟨hl, .inr ⟨g, cap, cur, rfl, hb, hg, h1, h2, h3, ht⟩⟩
    rw [hw.cellAt j (by omega)]
    simp [vs, List.getD, List.getElem?_map, List.getElem?_eq_getElem (show j < L.length by omega)]
theorem conv_front {w : World} {g m c : Nat} {L : List UInt8} (h : ∀ j, j < m → w.cell? ⟨g, j, none⟩ = some (.int .u8 ((L.getD j 0).toNat : Int))) (hl : L.length = m) :
    (convert 47 9 (.slice (some ⟨g, 0, none⟩) m c)).run Tryd.prog w = .ok (.string ⟨L.toArray⟩) w := by
  have := run_convert_bytes_arg (P := Tryd.prog) w 47 5 Tryd.underlying47 Tryd.underlying5 g 0 m c (L.map fun x => (x.toNat : Int)) (by simpa using hl) (fun i hi => by
    rw [Nat.zero_add, h i hi]
    simp [List.getD, List.getElem?_map, List.getElem?_eq_getElem (show i < L.length by omega)]) 9 Tryd.underlying9
  rw [this]
  congr 2
  unfold strOfNums
  congr 2
  rw [List.map_map]
  conv => rhs; rw [← List.map_id L]
  apply List.map_congr_left
  intro x _
  simp
set_option maxHeartbeats 1000000 in
theorem rtrim_any (s : ByteArray) (hs : s.size ≤ 200000) : CallIs 39 #[.string s] (.string (trimB s)) := by
  intro w
  obtain ⟨i0, hi, hz0, hz1, hz2⟩ := info_parts info_u8
  go_enter Tryd.func39, Tryd.ntmps39
  go_wp2
  go_loopw [3, 4] (fun v i wr => ∃ k : Nat, k ≤ s.size ∧ i = .int .i64 k ∧ Hid (wr.ownsRow w.heap.size 5 1 v (bL (trF (s.data.toList.take k))).length (vs (bL (trF (s.data.toList.take k))))) ∧ Hid (Below w.heap.size w wr)) (fun _ i _ => s.size - (intOf i).toNat)
  case atStart => exact ⟨0, Nat.zero_le _, rfl, hide (World.ownsRow_nil _ _ _ _), hide (Below.refl _ _)⟩
  case round =>
    obtain ⟨k, hk, rfl, hown, hB⟩ := hrel
    have hwz := hB.out.size
    have hll := bL_len (s.data.toList.take k)
    rw [List.length_take, ← Lib.size_eq] at hll
    by_cases hlt : k < s.size
    · have hst := bL_step (s.data.toList.take k) s[k]
      rw [← take_snoc s k hlt] at hst
      have hk1 : (k : Int) + 1 ≤ 9223372036854775807 := by omega
      generalize hL2 : bL (trF (s.data.toList.take (k + 1))) = L2 at *
      generalize bL (trF (s.data.toList.take k)) = L at *
      replace hL2 := hide hL2
      rcases hst with ⟨h1, h2⟩ | ⟨h1, h2, h3⟩ | ⟨h1, h2, h3, h4⟩ | ⟨h1, h2, h3, h4⟩
      · have e1 : ((s[k].toNat : Int) == 32) = false := by
          rw [beq_eq_false_iff_ne]
          intro e
          exact h1 (UInt8.toNat_inj.1 (by show s[k].toNat = 32; omega))
        replace h2 := hide h2
        clear h1
        have hown0 := hown.out
        go_wp2_with (at_builtin; refine wpList_append_own _ rfl _ _ 47 rfl w.heap.size 5 i0 (.int .u8 0) 1 1 Tryd.underlying47 hi hz0 hz1 hz2 rfl (by decide) _ _ _ rfl (hown0.alloc _) ⟨wr.heap.size, 0, none⟩ 1 1 [.int .u8 ((s[k].toNat : Int))] rfl rfl (fun j u hj => by match j, hj with | 0, hj => simp at hj; subst hj; simp [Addr.add]) (fun u hu => by simp at hu; subst hu; rfl) (by unfold maxLen; omega) (by omega) (by simp; omega) ?_)
        intro v' w1 hown' hgrow _
        have R := hide (own_more hwz hB.out hown' hown0 hgrow)
        clear hown' hgrow hown0
        go_wp2
        go_roundw
        case rel => exact ⟨k + 1, by omega, by go_num, hide (by rw [hL2.out, h2.out, List.length_append]; exact R.out.1), hide R.out.2⟩
        case measure => simp [intOf]; omega
      · have e1 : ((s[k].toNat : Int) == 32) = true := by rw [h1]; rfl
        obtain ⟨a0, c0, rfl⟩ := own_form hown.out
        have hz : L.length = 0 := by rw [h2]; rfl
        have e2 : ((L.length : Int) == 0) = true := by rw [hz]; rfl
        replace hz := hide hz
        replace h3 := hide h3
        clear h1 h2
        go_wp2
        go_roundw
        case rel => exact ⟨k + 1, by omega, by go_num, hide (by rw [hL2.out, h3.out]; exact hown.out), hB⟩
        case measure => simp [intOf]; omega
      · have e1 : ((s[k].toNat : Int) == 32) = true := by rw [h1]; rfl
        obtain ⟨g, c, m, rfl, hm, hmc, hcell⟩ := own_last hown.out h2 rfl
        have c1 := hcell m (Nat.le_refl _)
        have hgm : L.getD m 0 = 32 := by rw [show m = L.length - 1 by omega]; exact h3
        rw [hgm] at c1
        change _ = some (Value.int .u8 32) at c1
        have hlm : m + 1 ≤ 200000 := by omega
        clear hgm
        have e2 : (((m : Int) + 1) == 0) = false := by rw [beq_eq_false_iff_ne]; omega
        replace hm := hide hm
        replace h4 := hide h4
        replace hcell := hide hcell
        clear h1 h2 h3 hll
        go_wp2
        go_roundw
        case rel => exact ⟨k + 1, by omega, by go_num, hide (by rw [hL2.out, h4.out]; exact hown.out), hB⟩
        case measure => simp [intOf]; omega
      · have e1 : ((s[k].toNat : Int) == 32) = true := by rw [h1]; rfl
        have hown0 := hown.out
        obtain ⟨g, c, m, rfl, hm, hmc, hcell⟩ := own_last hown.out h2 rfl
        have c1 := hcell m (Nat.le_refl _)
        have e3 : (((L.getD m 0).toNat : Int) == 32) = false := by
          rw [beq_eq_false_iff_ne]
          intro e
          apply h3
          rw [show L.length - 1 = m by omega]
          exact UInt8.toNat_inj.1 (by show (L.getD m 0).toNat = 32; omega)
        have e2 : (((m : Int) + 1) == 0) = false := by rw [beq_eq_false_iff_ne]; omega
        have hc32 : Hid (s[k] = 32) := hide h1
        have hx32 : (s[k].toNat : Int) = 32 := by rw [h1]; rfl
        rw [hm] at hown0
        have hlm : m + 1 ≤ 200000 := by omega
        replace hm := hide hm
        replace h4 := hide h4
        replace hcell := hide hcell
        generalize (L.getD m 0).toNat = x at *
        clear h1 h2 h3 hll
        go_wp2_with (at_builtin; refine wpList_append_own _ rfl _ _ 47 rfl w.heap.size 5 i0 (.int .u8 0) 1 1 Tryd.underlying47 hi hz0 hz1 hz2 rfl (by decide) _ _ _ rfl (hown0.alloc _) ⟨wr.heap.size, 0, none⟩ 1 1 [.int .u8 (32)] rfl rfl (fun j u hj => by match j, hj with | 0, hj => simp at hj; subst hj; simp [Addr.add]) (fun u hu => by simp at hu; subst hu; rfl) (by unfold maxLen; omega) (by omega) (by simp; omega) ?_)
        intro v' w1 hown' hgrow _
        have R := hide (own_more (c := 32) hwz hB.out hown' hown0 hgrow)
        clear hown' hgrow hown0
        go_wp2
        go_roundw
        case rel => exact ⟨k + 1, by omega, by go_num, hide (by rw [hL2.out, h4.out, List.length_append, hm.out]; exact R.out.1), hide R.out.2⟩
        case measure => simp [intOf]; omega
    · obtain rfl : k = s.size := by omega
      rw [List.take_of_length_le (by rw [← Lib.size_eq]; exact Nat.le_refl _)] at hown hll
      have hg := trF_good s.data.toList
      have hres : Hid (trimB s = ⟨(trF s.data.toList).1.toArray⟩) := hide rfl
      generalize trF s.data.toList = st at *
      obtain ⟨O, b⟩ := st
      cases b with
      | true =>
        have hL : bL (O, true) = O ++ [32] := rfl
        rw [hL] at hown hll
        obtain ⟨g, c, m, rfl, hm, hmc, hcell⟩ := own_last hown.out (by simp) rfl
        have hmO : m = O.length := by simp at hm; omega
        have c1 := hcell m (Nat.le_refl _)
        have hgm : (O ++ [32]).getD m 0 = (32 : UInt8) := by rw [hmO]; simp [List.getD]
        rw [hgm] at c1
        change _ = some (Value.int .u8 32) at c1
        have hlm : m + 1 ≤ 200000 := by simp at hm hll; omega
        clear hgm
        have hcv := conv_front (w := wr) (g := g) (m := m) (c := c) (L := O) (fun j hj => by rw [hcell j (by omega), getD_app O [32] j (by omega)]) hmO.symm
        rw [← hres.out] at hcv
        have e2 : (m : Int) + 1 > 0 := by omega
        have b2 : m ≤ c := by omega
        replace hm := hide hm
        replace hmO := hide hmO
        replace hcell := hide hcell
        clear hll
        go_wp2
        go_ret
        exact ⟨rfl, hB.out⟩
      | false =>
        have hL : bL (O, false) = O := by simp [bL]
        rw [hL] at hown hll
        have hcv := conv_own hown.out
        rw [← hres.out] at hcv
        by_cases hO : O = []
        · have hz : O.length = 0 := by rw [hO]; rfl
          obtain ⟨a0, c0, rfl⟩ := own_form hown.out
          rw [hz] at hcv
          have e2 : ¬ (0 : Int) > 0 := by omega
          rw [hz]
          clear hll hg hO
          go_wp2
          go_ret
          exact ⟨rfl, hB.out⟩
        · obtain ⟨g, c, m, rfl, hm, hmc, hcell⟩ := own_last hown.out hO rfl
          have c1 := hcell m (Nat.le_refl _)
          have e3 : (((O.getD m 0).toNat : Int) == 32) = false := by
            rw [beq_eq_false_iff_ne]
            intro e
            have hx : O.getD m 0 = 32 := UInt8.toNat_inj.1 (by show (O.getD m 0).toNat = 32; omega)
            have := (hg.1 m (by simp only; omega) hx).2.1
            simp only at this
            omega
          have e2 : (m : Int) + 1 > 0 := by omega
          have hlm : m + 1 ≤ 200000 := by omega
          replace hm := hide hm
          replace hcell := hide hcell
          generalize (O.getD m 0).toNat = x at *
          clear hll hg
          go_wp2
          go_ret
          exact ⟨rfl, hB.out⟩
end Go.Proofs.YtllbgjeibcaajaaDoor
