/- What the document's number answers. Proved of the Go text. -/
import Derived.Test.YtcabgnikbgoikaaDoorRf8a
import Derived.Test.YtcabgnikbgoikaaDoorNumM8
namespace Go.Proofs.YtcabgnikbgoikaaDoor
open Go.RowKit Go.Sort
set_option linter.unusedVariables false

abbrev gotV (k : Int) (t : ByteArray) (i n e : Int) : Value := .agg #[.int .i64 k, .string t, .int .i64 i, .int .i64 n, .int .i64 e]
abbrev gotO (k : Int) (t : ByteArray) (i n e : Int) : Obj := .cells #[.int .i64 k, .string t, .int .i64 i, .int .i64 n, .int .i64 e] 37
/-- What begins at i, as the document's own answer. -/
def gotOf (i : Nat) : Tok → Value
  | .bad e => gotV 0 no 0 0 e
  | .ok k t n => gotV k (ba t) 0 ((i + n : Nat) : Int) 0
theorem run_slc (s : ByteArray) (i : Nat) : runOf (s.data.toList.drop i) = slc s.data.toList i (runE isRun s i) := by
  unfold runOf slc runE
  rw [Nat.add_sub_cancel_left]
  exact List.prefix_iff_eq_take.1 (List.takeWhile_prefix _)
theorem slc_cons (s : ByteArray) (a b : Nat) (h : a < b) (hb : b ≤ s.size) : slc s.data.toList a b = s[a] :: slc s.data.toList (a + 1) b := by
  unfold slc
  rw [drop_cons s a (by omega), show b - a = (b - (a + 1)) + 1 by omega, List.take_succ_cons]
theorem dgs_slc (s : ByteArray) (i k : Nat) (h : i ≤ k) (hk : k < s.size) (hd : dgs (slc s.data.toList i k) = true) (hc : dig s[k] = true) : dgs (slc s.data.toList i (k + 1)) = true := by
  rw [slc_snoc s i k h hk, dgs_snoc, hd, hc]; rfl
theorem dgs_mid (s : ByteArray) (i k b : Nat) (h : i ≤ k) (hk : k < b) (hb : b ≤ s.size) (hc : dig s[k] = false) : dgs (slc s.data.toList i b) = false := by
  unfold dgs
  rw [List.all_eq_false]
  refine ⟨s[k], ?_, by rw [hc]; decide⟩
  rw [List.mem_iff_getElem]
  refine ⟨k - i, by rw [slc_len _ _ _ (by rw [← Lib.size_eq]; exact hb)]; omega, ?_⟩
  unfold slc
  rw [List.getElem_take, List.getElem_drop]
  simp only [show i + (k - i) = k by omega]
  rfl
set_option maxHeartbeats 4000000 in
theorem rnumber8 (s : ByteArray) (i : Nat) (hs : s.size ≤ 65535) (hi : i < s.size) (hr0 : isRun s[i] = true) : CallIs 14 #[.string s, .int .i64 i] (gotOf i (numTok (runOf (s.data.toList.drop i)))) := by
  intro w
  have hs' : s.size ≤ 9223372036854775807 := by omega
  have HR := rrun8 s i hs (by omega)
  have hto1 : i < runE isRun s i := by rw [runE_step _ s i hi hr0]; have := runE_ge isRun s (i + 1); omega
  have hto2 := runE_le isRun s i (by omega)
  have hnt := hide (fun T (h : numTok (slc s.data.toList i (runE isRun s i)) = T) => (show numTok (runOf (s.data.toList.drop i)) = T by rw [run_slc]; exact h))
  have hlen : Hid ((slc s.data.toList i (runE isRun s i)).length = runE isRun s i - i) := hide (slc_len _ _ _ (by rw [← Lib.size_eq]; exact hto2))
  generalize runE isRun s i = tt0 at *
  have B1 := hide (step (Below.refl w.heap.size w) (gotO 0 no 0 0 0))
  go_enter Tryd.func14, Tryd.ntmps14
  go_wp2_with (go_at_call 23; refine (HR.out _).mono ?_; rintro e w1 ⟨rfl, rfl⟩)
  go_loop [6] (fun a => ∃ k : Nat, i ≤ k ∧ k ≤ tt0 ∧ a = .int .i64 k ∧ Hid (dgs (slc s.data.toList i k) = true)) (fun a => tt0 - (intOf a).toNat)
  case atStart => exact ⟨i, Nat.le_refl _, by omega, rfl, hide (by rw [slc_self]; rfl)⟩
  case round =>
    obtain ⟨k, hik, hk, rfl, Hr⟩ := hrel
    by_cases hlt : k < tt0
    · have hki : (k : Int) < tt0 := by omega
      have hks : k < s.size := by omega
      have HD := rdigit8 s[k]
      cases h1 : dig s[k]
      · rw [h1] at HD
        have HN := hide (hnt.out (.bad 21) (by unfold numTok; rw [dgs_mid s i k tt0 hik hlt hto2 h1]; rfl))
        go_wp2_with (go_at_call 13; refine (HD.out _).mono ?_; rintro e w1 ⟨rfl, rfl⟩)
        go_returns
        exact ⟨by rw [HN.out]; rfl, step (Below.refl w.heap.size w) _⟩
      · rw [h1] at HD
        have HE := hide (dgs_slc s i k hik hks Hr.out h1)
        go_wp2_with (go_at_call 13; refine (HD.out _).mono ?_; rintro e w1 ⟨rfl, rfl⟩)
        go_round
        case rel => exact ⟨k + 1, by omega, by omega, by go_num, HE⟩
        case measure => simp [intOf]; omega
    · obtain rfl : k = tt0 := by omega
      have hki : ¬ (k : Int) < k := by omega
      go_wp2_with fail
      go_loop [1] (fun a => ∃ a' : Nat, i ≤ a' ∧ a' < k ∧ a = .int .i64 a' ∧ Hid (trim0 (slc s.data.toList i k) = trim0 (slc s.data.toList a' k))) (fun a => k - (intOf a).toNat)
      case atStart => exact ⟨i, Nat.le_refl _, hto1, rfl, hide rfl⟩
      case round =>
        obtain ⟨a', hia, hak, rfl, Ht⟩ := hrel
        have has : a' < s.size := by omega
        have h1 : (a' : Int) + 1 ≤ 9223372036854775807 := by omega
        have e48 : ((s[a'].toNat : Int) == 48) = (s[a'] == 48) := eq_c s[a'] 48 (by decide)
        have hcs := hide (slc_cons s a' k hak hto2)
        by_cases hl1 : a' + 1 < k
        · have hl1' : (a' : Int) + 1 < k := by omega
          cases h48 : (s[a'] == 48)
          · rw [h48] at e48
            have HT : Hid (trim0 (slc s.data.toList i k) = slc s.data.toList a' k) := hide (by rw [Ht.out, hcs.out]; exact trim_other (by simpa using h48))
            clear h48
            have hnum : numL (slc s.data.toList a' k) = true ∨ slc s.data.toList a' k = [48] := by rw [← HT.out]; exact trim_num Hr.out
            obtain ⟨t, ht⟩ : ∃ t, s.extract a' k = t := ⟨_, rfl⟩
            have htb : Hid (t = ba (slc s.data.toList a' k)) := hide (by rw [← ht]; exact ba_ext s a' k hto2)
            have htz : Hid (t.size = (slc s.data.toList a' k).length) := hide (by rw [htb.out]; exact ba_size _)
            have htl : Hid (t.toList = slc s.data.toList a' k) := hide (by rw [htb.out, ByteArray.toList_eq, ba_list])
            have hv12 : Hid (9223372036854775807 < val (slc s.data.toList a' k) → numTok (runOf (s.data.toList.drop i)) = .bad 12) := hide (fun h => hnt.out _ (by unfold numTok; rw [Hr.out, if_pos rfl, HT.out, if_neg (by omega)]))
            have hv1 : Hid (val (slc s.data.toList a' k) ≤ 9223372036854775807 → gotOf i (numTok (runOf (s.data.toList.drop i))) = gotV 1 t 0 k 0) := hide (fun h => by
              rw [hnt.out (.ok 1 (slc s.data.toList a' k) (k - i)) (by unfold numTok; rw [Hr.out, if_pos rfl, HT.out, if_pos h, hlen.out]), htb.out]
              show gotV 1 _ 0 ((i + (k - i) : Nat) : Int) 0 = _
              rw [show i + (k - i) = k by omega])
            have hse := hide (over_same hnum)
            have hle2 : t.size ≤ 9223372036854775807 := by rw [htz.out]; unfold slc; rw [List.length_take]; omega
            have ha0 : (a' : Int) ≤ k := by omega
            have hk0 : (k : Int) ≤ s.size := by omega
            by_cases g1 : 19 < t.size
            · have HN := hide (hv12.out (over_len hnum (by rw [← htz.out]; exact g1)))
              have g1' : (19 : Int) < t.size := by omega
              go_wp2_with fail
              go_returns
              exact ⟨by rw [HN.out]; rfl, step (Below.refl w.heap.size w) _⟩
            by_cases g2 : t.size = 19
            · have g2' : ((t.size : Int) == 19) = true := by rw [beq_iff_eq]; omega
              have g1' : ¬ (19 : Int) < t.size := by omega
              have hse2 := hide (hse.out (by rw [← htz.out]; exact g2))
              cases g3 : Op.bytesLess t.toList [57, 50, 50, 51, 51, 55, 50, 48, 51, 54, 56, 53, 52, 55, 55, 53, 56, 48, 55]
              · cases g4 : (t.toList == [57, 50, 50, 51, 51, 55, 50, 48, 51, 54, 56, 53, 52, 55, 55, 53, 56, 48, 55])
                · have HN := hide (hv12.out (hse2.out.2 ⟨by rw [← htl.out]; unfold mostL; rw [g3]; decide, by rw [← htl.out]; unfold mostL; simpa using g4⟩))
                  go_wp2_with fail
                  go_returns
                  exact ⟨by rw [HN.out]; rfl, step (Below.refl w.heap.size w) _⟩
                · have HN := hide (hv1.out (by
                    have h5 : ¬ 9223372036854775807 < val (slc s.data.toList a' k) := fun h => (hse2.out.1 h).2 (by rw [← htl.out]; unfold mostL; simpa using g4)
                    omega))
                  go_wp2_with fail
                  go_returns
                  exact ⟨by rw [HN.out], step (Below.refl w.heap.size w) _⟩
              · have HN := hide (hv1.out (by
                  have h5 : ¬ 9223372036854775807 < val (slc s.data.toList a' k) := fun h => (hse2.out.1 h).1 (by rw [← htl.out]; unfold mostL; exact g3)
                  omega))
                go_wp2_with fail
                go_returns
                exact ⟨by rw [HN.out], step (Below.refl w.heap.size w) _⟩
            · have g2' : ((t.size : Int) == 19) = false := by rw [beq_eq_false_iff_ne]; omega
              have g1' : ¬ (19 : Int) < t.size := by omega
              have HN := hide (hv1.out (over_not hnum (by rw [← htz.out]; omega)))
              go_wp2_with fail
              go_returns
              exact ⟨by rw [HN.out], step (Below.refl w.heap.size w) _⟩
          · rw [h48] at e48
            have HE : Hid (trim0 (slc s.data.toList i k) = trim0 (slc s.data.toList (a' + 1) k)) := hide (by rw [Ht.out, hcs.out, show s[a'] = 48 by simpa using h48]; exact trim_zero _)
            clear h48
            go_wp2_with fail
            go_round
            case rel => exact ⟨a' + 1, by omega, hl1, by go_num, HE⟩
            case measure => simp [intOf]; omega
        · have hl1' : ¬ (a' : Int) + 1 < k := by omega
          have HT : Hid (trim0 (slc s.data.toList i k) = slc s.data.toList a' k) := hide (by rw [Ht.out, hcs.out, show a' + 1 = k by omega, slc_self]; exact trim_one _)
          have hnum : numL (slc s.data.toList a' k) = true ∨ slc s.data.toList a' k = [48] := by rw [← HT.out]; exact trim_num Hr.out
          obtain ⟨t, ht⟩ : ∃ t, s.extract a' k = t := ⟨_, rfl⟩
          have htb : Hid (t = ba (slc s.data.toList a' k)) := hide (by rw [← ht]; exact ba_ext s a' k hto2)
          have htz : Hid (t.size = (slc s.data.toList a' k).length) := hide (by rw [htb.out]; exact ba_size _)
          have htl : Hid (t.toList = slc s.data.toList a' k) := hide (by rw [htb.out, ByteArray.toList_eq, ba_list])
          have hv12 : Hid (9223372036854775807 < val (slc s.data.toList a' k) → numTok (runOf (s.data.toList.drop i)) = .bad 12) := hide (fun h => hnt.out _ (by unfold numTok; rw [Hr.out, if_pos rfl, HT.out, if_neg (by omega)]))
          have hv1 : Hid (val (slc s.data.toList a' k) ≤ 9223372036854775807 → gotOf i (numTok (runOf (s.data.toList.drop i))) = gotV 1 t 0 k 0) := hide (fun h => by
            rw [hnt.out (.ok 1 (slc s.data.toList a' k) (k - i)) (by unfold numTok; rw [Hr.out, if_pos rfl, HT.out, if_pos h, hlen.out]), htb.out]
            show gotV 1 _ 0 ((i + (k - i) : Nat) : Int) 0 = _
            rw [show i + (k - i) = k by omega])
          have hse := hide (over_same hnum)
          have hle2 : t.size ≤ 9223372036854775807 := by rw [htz.out]; unfold slc; rw [List.length_take]; omega
          have ha0 : (a' : Int) ≤ k := by omega
          have hk0 : (k : Int) ≤ s.size := by omega
          by_cases g1 : 19 < t.size
          · have HN := hide (hv12.out (over_len hnum (by rw [← htz.out]; exact g1)))
            have g1' : (19 : Int) < t.size := by omega
            go_wp2_with fail
            go_returns
            exact ⟨by rw [HN.out]; rfl, step (Below.refl w.heap.size w) _⟩
          by_cases g2 : t.size = 19
          · have g2' : ((t.size : Int) == 19) = true := by rw [beq_iff_eq]; omega
            have g1' : ¬ (19 : Int) < t.size := by omega
            have hse2 := hide (hse.out (by rw [← htz.out]; exact g2))
            cases g3 : Op.bytesLess t.toList [57, 50, 50, 51, 51, 55, 50, 48, 51, 54, 56, 53, 52, 55, 55, 53, 56, 48, 55]
            · cases g4 : (t.toList == [57, 50, 50, 51, 51, 55, 50, 48, 51, 54, 56, 53, 52, 55, 55, 53, 56, 48, 55])
              · have HN := hide (hv12.out (hse2.out.2 ⟨by rw [← htl.out]; unfold mostL; rw [g3]; decide, by rw [← htl.out]; unfold mostL; simpa using g4⟩))
                go_wp2_with fail
                go_returns
                exact ⟨by rw [HN.out]; rfl, step (Below.refl w.heap.size w) _⟩
              · have HN := hide (hv1.out (by
                  have h5 : ¬ 9223372036854775807 < val (slc s.data.toList a' k) := fun h => (hse2.out.1 h).2 (by rw [← htl.out]; unfold mostL; simpa using g4)
                  omega))
                go_wp2_with fail
                go_returns
                exact ⟨by rw [HN.out], step (Below.refl w.heap.size w) _⟩
            · have HN := hide (hv1.out (by
                have h5 : ¬ 9223372036854775807 < val (slc s.data.toList a' k) := fun h => (hse2.out.1 h).1 (by rw [← htl.out]; unfold mostL; exact g3)
                omega))
              go_wp2_with fail
              go_returns
              exact ⟨by rw [HN.out], step (Below.refl w.heap.size w) _⟩
          · have g2' : ((t.size : Int) == 19) = false := by rw [beq_eq_false_iff_ne]; omega
            have g1' : ¬ (19 : Int) < t.size := by omega
            have HN := hide (hv1.out (over_not hnum (by rw [← htz.out]; omega)))
            go_wp2_with fail
            go_returns
            exact ⟨by rw [HN.out], step (Below.refl w.heap.size w) _⟩
end Go.Proofs.YtcabgnikbgoikaaDoor
