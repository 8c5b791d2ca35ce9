/- What the reference's Swap answers, for every three texts: proved of the Go text. -/
import Derived.Test.YtllbgjeibcaajaaDoorSwap5
import Derived.Test.YtllbgjeibcaajaaDoorRefT5
import Derived.Test.YtllbgjeibcaajaaDoorRefC5
namespace Go.Proofs.YtllbgjeibcaajaaDoor
open Go.RowKit Go.Sort
set_option linter.unusedVariables false

theorem rswap_empty (s new : ByteArray) : CallIs 41 #[.string s, .string no, .string new] (.tuple #[.string s, .int .i64 0]) := by
  intro w
  go_enter Tryd.func41, Tryd.ntmps41
  go_wp2_with fail
  go_ret2
  exact ⟨rfl, Below.refl _ _⟩
theorem drop_cons (s : ByteArray) (i : Nat) (h : i < s.size) : s.data.toList.drop i = s[i] :: s.data.toList.drop (i + 1) := by
  rw [List.drop_eq_getElem_cons (by rw [← Lib.size_eq]; exact h)]; rfl
set_option maxHeartbeats 1000000 in
theorem rswap_any (s old new : ByteArray) (h1 : s.size ≤ 200000) (h2 : old.size ≤ 200000) (h3 : new.size ≤ 200000) (h0 : 0 < old.size) :
    CallIs 41 #[.string s, .string old, .string new] (if (swB s old new).size > 32767 then .tuple #[.string no, .int .i64 2] else .tuple #[.string (swB s old new), .int .i64 0]) := by
  intro w
  obtain ⟨i0, hi, hz0, hz1, hz2⟩ := info_parts info_u8
  have a1 := toList_ne h0
  have a2 := full2 h0
  have a3 := full3 h0
  have hne := hide (ne_of_size h0)
  have hsz : Hid ((swB s old new).size = (swL old.data.toList new.data.toList s.data.toList).length) := hide (by rw [Lib.size_eq]; rfl)
  generalize hV : (if (swB s old new).size > 32767 then Value.tuple #[.string no, .int .i64 2] else .tuple #[.string (swB s old new), .int .i64 0]) = V
  replace hV := hide hV
  go_enter Tryd.func41, Tryd.ntmps41
  go_wp2_with fail
  clear a1 a2 a3
  go_loopw [8, 9] (fun v iv wr => ∃ (i : Nat) (B : List UInt8), i ≤ s.size ∧ iv = .int .i64 i ∧ B.length ≤ 32767 ∧ Hid (B ++ swL old.data.toList new.data.toList (s.data.toList.drop i) = swL old.data.toList new.data.toList s.data.toList) ∧ Hid (wr.ownsRow w.heap.size 5 1 v B.length (vs B)) ∧ Hid (Below w.heap.size w wr)) (fun _ iv _ => s.size - (intOf iv).toNat)
  case atStart => exact ⟨0, [], Nat.zero_le _, rfl, by simp, hide rfl, hide (World.ownsRow_nil _ _ _ _), hide (Below.refl _ _)⟩
  case round =>
    obtain ⟨i, B, hi', rfl, hBl, hS, hown, hB⟩ := hrel
    by_cases hlt : i < s.size
    · have HG := rbegins_any s old i hi'
      cases ho : occ s old i with
      | true =>
        rw [ho] at HG
        have hroom : i + old.size ≤ s.size := by
          have := (begins_yes s old i hi' ho).1
          rw [ext_size] at this
          omega
        have hS2 : Hid ((B ++ new.data.toList) ++ swL old.data.toList new.data.toList (s.data.toList.drop (i + old.size)) = swL old.data.toList new.data.toList s.data.toList) := by
          rw [← hS.out, swL_hit hne.out (show old.data.toList.isPrefixOf (s.data.toList.drop i) = true from ho), List.drop_drop, ← Lib.size_eq, List.append_assoc]
          exact hide rfl
        have hlen : Hid ((B ++ new.data.toList).length = B.length + new.size) := hide (by rw [List.length_append, ← Lib.size_eq])
        have wi : (i : Int) + old.size ≤ 9223372036854775807 := by omega
        clear ho
        go_wp2_with fail
        refine (HG.out _).mono ?_
        rintro e w1 ⟨rfl, hb1⟩
        have hO1 := own_keep hown.out hb1
        have hB1 := hide (next hB.out hb1)
        have hwz := hB1.out.size
        clear hb1 hown hB
        go_wp2_with (at_builtin; refine Lib.wpList_append_own_string _ rfl _ _ 47 9 rfl w.heap.size 5 i0 Tryd.underlying47 Tryd.underlying9 hi hz0 hz1 hz2 _ _ _ rfl hO1 new rfl (by unfold maxLen; omega) (by omega) hwz ?_)
        intro v' w2 hown' hgrow _
        have R := hide (own_str hwz hB1.out hown' hO1 hgrow)
        clear hown' hgrow hO1
        obtain ⟨a0, c0, rfl⟩ := own_form R.out.1
        by_cases hbig : (B.length : Int) + new.size > 32767
        · have hres : Hid (V = .tuple #[.string no, .int .i64 2]) := by
            rw [← hV.out, if_pos]
            · exact hide rfl
            · rw [hsz.out, ← hS2.out, List.length_append, hlen.out]; omega
          go_wp2_with fail
          go_ret2
          exact ⟨by rw [hres.out]; rfl, R.out.2⟩
        · go_wp2_with fail
          go_roundw
          case rel => exact ⟨i + old.size, B ++ new.data.toList, hroom, by go_num, by rw [hlen.out]; omega, hS2, hide (by rw [hlen.out]; exact R.out.1), hide R.out.2⟩
          case measure => simp [intOf]; omega
      | false =>
        rw [ho] at HG
        have hS2 : Hid ((B ++ [s[i]]) ++ swL old.data.toList new.data.toList (s.data.toList.drop (i + 1)) = swL old.data.toList new.data.toList s.data.toList) := by
          have hd := drop_cons s i hlt
          have hm : old.data.toList.isPrefixOf (s[i] :: s.data.toList.drop (i + 1)) = false := by rw [← hd]; exact ho
          rw [← hS.out, hd, swL_miss hm, List.append_assoc]
          exact hide rfl
        have hlen : Hid ((B ++ [s[i]]).length = B.length + 1) := hide (by simp)
        have wi : (i : Int) + 1 ≤ 9223372036854775807 := by omega
        clear ho
        go_wp2_with fail
        refine (HG.out _).mono ?_
        rintro e w1 ⟨rfl, hb1⟩
        have hO1 := own_keep hown.out hb1
        have hB1 := hide (next hB.out hb1)
        have hwz := hB1.out.size
        clear hb1 hown hB
        go_wp2_with (at_builtin; refine wpList_append_own _ rfl _ _ 47 rfl w.heap.size 5 i0 (.int .u8 0) 1 1 Tryd.underlying47 hi hz0 hz1 hz2 rfl (by decide) _ _ _ rfl (hO1.alloc _) ⟨w1.heap.size, 0, none⟩ 1 1 [.int .u8 ((s[i].toNat : Int))] rfl rfl (fun j u hj => by match j, hj with | 0, hj => simp at hj; subst hj; simp [Addr.add]) (fun u hu => by simp at hu; subst hu; rfl) (by unfold maxLen; omega) (by omega) (by simp; omega) ?_)
        intro v' w2 hown' hgrow _
        have R := hide (own_more hwz hB1.out hown' hO1 hgrow)
        clear hown' hgrow hO1
        obtain ⟨a0, c0, rfl⟩ := own_form R.out.1
        by_cases hbig : (B.length : Int) + 1 > 32767
        · have hres : Hid (V = .tuple #[.string no, .int .i64 2]) := by
            rw [← hV.out, if_pos]
            · exact hide rfl
            · rw [hsz.out, ← hS2.out, List.length_append, hlen.out]; omega
          go_wp2_with fail
          go_ret2
          exact ⟨by rw [hres.out]; rfl, R.out.2⟩
        · go_wp2_with fail
          go_roundw
          case rel => exact ⟨i + 1, B ++ [s[i]], by omega, by go_num, by rw [hlen.out]; omega, hS2, hide (by rw [hlen.out]; exact R.out.1), hide R.out.2⟩
          case measure => simp [intOf]; omega
    · obtain rfl : i = s.size := by omega
      have hS2 : Hid (B = swL old.data.toList new.data.toList s.data.toList) := by
        have := hS.out
        rw [List.drop_of_length_le (by rw [← Lib.size_eq]; exact Nat.le_refl _), swL_nil, List.append_nil] at this
        exact hide this
      have hcv := conv_own hown.out
      have hres : Hid (V = .tuple #[.string ⟨B.toArray⟩, .int .i64 0]) := by
        rw [← hV.out, if_neg]
        · rw [hS2.out]; exact hide rfl
        · rw [hsz.out, ← hS2.out]; omega
      go_wp2_with fail
      go_ret2
      exact ⟨by rw [hres.out]; rfl, hB.out⟩
end Go.Proofs.YtllbgjeibcaajaaDoor
