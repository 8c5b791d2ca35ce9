/- What the document's digit, letter, run, name and blank answer. Proved of the Go text. -/
import Derived.Test.YtcabgnikbgoikaaDoorWordOf8
namespace Go.Proofs.YtcabgnikbgoikaaDoor
open Go.RowKit Go.Sort
set_option linter.unusedVariables false

theorem rdigit8 (c : UInt8) : CallS 13 #[.int .u8 c.toNat] (.bool (dig c)) := by
  intro w
  by_cases h1 : 48 ≤ (c.toNat : Int)
  · by_cases h2 : (c.toNat : Int) ≤ 57
    · skip
      go_enter Tryd.func13, Tryd.ntmps13
      go_wp2_with (fail)
      go_ret
      exact ⟨ret_bool (by simp [dig]; omega), rfl⟩
    · skip
      go_enter Tryd.func13, Tryd.ntmps13
      go_wp2_with (fail)
      go_ret
      exact ⟨ret_bool (by simp [dig]; omega), rfl⟩
  · skip
    go_enter Tryd.func13, Tryd.ntmps13
    go_wp2_with (fail)
    go_ret
    exact ⟨ret_bool (by simp [dig]; omega), rfl⟩
theorem rletter8 (c : UInt8) : CallS 16 #[.int .u8 c.toNat] (.bool (isL c)) := by
  intro w
  by_cases h1 : 65 ≤ (c.toNat : Int)
  · by_cases h2 : (c.toNat : Int) ≤ 90
    · skip
      go_enter Tryd.func16, Tryd.ntmps16
      go_wp2_with (fail)
      go_ret
      exact ⟨ret_bool (by simp [isL, isC, isS]; omega), rfl⟩
    · by_cases h3 : 97 ≤ (c.toNat : Int)
      · by_cases h4 : (c.toNat : Int) ≤ 122
        · skip
          go_enter Tryd.func16, Tryd.ntmps16
          go_wp2_with (fail)
          go_ret
          exact ⟨ret_bool (by simp [isL, isC, isS]; omega), rfl⟩
        · skip
          go_enter Tryd.func16, Tryd.ntmps16
          go_wp2_with (fail)
          go_ret
          exact ⟨ret_bool (by simp [isL, isC, isS]; omega), rfl⟩
      · skip
        go_enter Tryd.func16, Tryd.ntmps16
        go_wp2_with (fail)
        go_ret
        exact ⟨ret_bool (by simp [isL, isC, isS]; omega), rfl⟩
  · have h3 : ¬ 97 ≤ (c.toNat : Int) := by omega
    go_enter Tryd.func16, Tryd.ntmps16
    go_wp2_with (fail)
    go_ret
    exact ⟨ret_bool (by simp [isL, isC, isS]; omega), rfl⟩
theorem isRun_or (c : UInt8) : isRun c = (isL c || (dig c || (c == 36 || c == 95))) := by
  unfold isRun isL
  cases dig c <;> cases isC c <;> cases isS c <;> cases (c == 36) <;> cases (c == 95) <;> rfl
theorem eq_c (c : UInt8) (n : Nat) (hn : n < 256) : ((c.toNat : Int) == (n : Int)) = (c == UInt8.ofNat n) := by
  rw [Bool.eq_iff_iff, beq_iff_eq, beq_iff_eq, u8 c n hn]; omega
set_option maxHeartbeats 2000000 in
theorem rrun8 (s : ByteArray) (i : Nat) (hs : s.size ≤ 65535) (hi : i ≤ s.size) : CallS 23 #[.string s, .int .i64 i] (.int .i64 (runE isRun s i)) := by
  intro w
  have hs' : s.size ≤ 9223372036854775807 := by omega
  go_enter Tryd.func23, Tryd.ntmps23
  go_wp2_with fail
  go_loop [1] (fun a => ∃ k : Nat, k ≤ s.size ∧ a = .int .i64 k ∧ Hid (runE isRun s i = runE isRun s k)) (fun a => s.size - (intOf a).toNat)
  case atStart => exact ⟨i, hi, rfl, rfl⟩
  case round =>
    obtain ⟨k, hk, rfl, Hr⟩ := hrel
    by_cases hlt : k < s.size
    · have hki : (k : Int) < s.size := by omega
      have HL := rletter8 s[k]
      have HD := rdigit8 s[k]
      have e36 : ((s[k].toNat : Int) == 36) = (s[k] == 36) := eq_c s[k] 36 (by decide)
      have e95 : ((s[k].toNat : Int) == 95) = (s[k] == 95) := eq_c s[k] 95 (by decide)
      have hor := hide (isRun_or s[k])
      cases h1 : isL s[k]
      · rw [h1] at HL
        cases h2 : dig s[k]
        · rw [h2] at HD
          cases h3 : (s[k] == 36)
          · rw [h3] at e36
            cases h4 : (s[k] == 95)
            · rw [h4] at e95
              have hc : isRun s[k] = false := by rw [hor.out, h1, h2, h3, h4]; rfl
              have HE := hide (Hr.out.trans (runE_stop _ s k hlt hc))
              clear h3 h4
              go_wp2_with (first | (go_at_call 16; refine (HL.out _).mono ?_; rintro e w1 ⟨rfl, rfl⟩) | (go_at_call 13; refine (HD.out _).mono ?_; rintro e w1 ⟨rfl, rfl⟩))
              go_ret
              exact ⟨ret_int (by rw [HE.out]), rfl⟩
            · rw [h4] at e95
              have hc : isRun s[k] = true := by rw [hor.out, h1, h2, h3, h4]; rfl
              clear h3 h4
              have HE := hide (Hr.out.trans (runE_step _ s k hlt hc))
              go_wp2_with (first | (go_at_call 16; refine (HL.out _).mono ?_; rintro e w1 ⟨rfl, rfl⟩) | (go_at_call 13; refine (HD.out _).mono ?_; rintro e w1 ⟨rfl, rfl⟩))
              go_round
              case rel => exact ⟨k + 1, by omega, by go_num, HE.out⟩
              case measure => simp [intOf]; omega
          · rw [h3] at e36
            have hc : isRun s[k] = true := by rw [hor.out, h1, h2, h3]; rfl
            clear h3
            have HE := hide (Hr.out.trans (runE_step _ s k hlt hc))
            go_wp2_with (first | (go_at_call 16; refine (HL.out _).mono ?_; rintro e w1 ⟨rfl, rfl⟩) | (go_at_call 13; refine (HD.out _).mono ?_; rintro e w1 ⟨rfl, rfl⟩))
            go_round
            case rel => exact ⟨k + 1, by omega, by go_num, HE.out⟩
            case measure => simp [intOf]; omega
        · rw [h2] at HD
          have hc : isRun s[k] = true := by rw [hor.out, h1, h2]; rfl
          have HE := hide (Hr.out.trans (runE_step _ s k hlt hc))
          go_wp2_with (first | (go_at_call 16; refine (HL.out _).mono ?_; rintro e w1 ⟨rfl, rfl⟩) | (go_at_call 13; refine (HD.out _).mono ?_; rintro e w1 ⟨rfl, rfl⟩))
          go_round
          case rel => exact ⟨k + 1, by omega, by go_num, HE.out⟩
          case measure => simp [intOf]; omega
      · rw [h1] at HL
        have hc : isRun s[k] = true := by rw [hor.out, h1]; rfl
        have HE := hide (Hr.out.trans (runE_step _ s k hlt hc))
        go_wp2_with (first | (go_at_call 16; refine (HL.out _).mono ?_; rintro e w1 ⟨rfl, rfl⟩) | (go_at_call 13; refine (HD.out _).mono ?_; rintro e w1 ⟨rfl, rfl⟩))
        go_round
        case rel => exact ⟨k + 1, by omega, by go_num, HE.out⟩
        case measure => simp [intOf]; omega
    · have hki : ¬ (k : Int) < s.size := by omega
      have HE := hide (Hr.out.trans (runE_end _ s k (by omega)))
      go_wp2_with fail
      go_ret
      exact ⟨ret_int (by rw [HE.out]), rfl⟩
theorem plain_step8 (s : ByteArray) (k : Nat) (h : k < s.size) (hd : plainN (s.data.toList.take k) = true) (hc : (isL s[k] || dig s[k]) = true) : plainN (s.data.toList.take (k + 1)) = true := by
  unfold plainN at *
  rw [take_snoc s k h, List.all_append, hd, List.all_cons, hc]; rfl
theorem plain_stop8 (s : ByteArray) (k : Nat) (h : k < s.size) (hc : (isL s[k] || dig s[k]) = false) : plainN s.data.toList = false := by
  unfold plainN
  rw [List.all_eq_false]
  exact ⟨s[k], by rw [show s[k] = s.data.toList[k]'(by simpa using h) from rfl]; exact List.getElem_mem _, by rw [hc]; decide⟩
set_option maxHeartbeats 2000000 in
theorem rname8 (s : ByteArray) (hs : s.size ≤ 65535) (h0 : 0 < s.size) : CallS 25 #[.string s] (.bool (plainN s.data.toList && isL s[0])) := by
  intro w
  have hs' : s.size ≤ 9223372036854775807 := by omega
  go_enter Tryd.func25, Tryd.ntmps25
  go_wp2_with fail
  go_loop [3] (fun a => ∃ k : Nat, k ≤ s.size ∧ a = .int .i64 k ∧ Hid (plainN (s.data.toList.take k) = true)) (fun a => s.size - (intOf a).toNat)
  case atStart => exact ⟨0, Nat.zero_le _, rfl, rfl⟩
  case round =>
    obtain ⟨k, hk, rfl, Hr⟩ := hrel
    by_cases hlt : k < s.size
    · have hki : (k : Int) < s.size := by omega
      have HL := rletter8 s[k]
      have HD := rdigit8 s[k]
      cases h1 : isL s[k]
      · rw [h1] at HL
        cases h2 : dig s[k]
        · rw [h2] at HD
          have HE := hide (plain_stop8 s k hlt (by rw [h1, h2]; rfl))
          go_wp2_with (first | (go_at_call 16; refine (HL.out _).mono ?_; rintro e w1 ⟨rfl, rfl⟩) | (go_at_call 13; refine (HD.out _).mono ?_; rintro e w1 ⟨rfl, rfl⟩))
          go_ret
          exact ⟨ret_bool (by rw [HE.out]; rfl), rfl⟩
        · rw [h2] at HD
          have HE := hide (plain_step8 s k hlt Hr.out (by rw [h1, h2]; rfl))
          go_wp2_with (first | (go_at_call 16; refine (HL.out _).mono ?_; rintro e w1 ⟨rfl, rfl⟩) | (go_at_call 13; refine (HD.out _).mono ?_; rintro e w1 ⟨rfl, rfl⟩))
          go_round
          case rel => exact ⟨k + 1, by omega, by go_num, HE⟩
          case measure => simp [intOf]; omega
      · rw [h1] at HL
        have HE := hide (plain_step8 s k hlt Hr.out (by rw [h1]; rfl))
        go_wp2_with (first | (go_at_call 16; refine (HL.out _).mono ?_; rintro e w1 ⟨rfl, rfl⟩) | (go_at_call 13; refine (HD.out _).mono ?_; rintro e w1 ⟨rfl, rfl⟩))
        go_round
        case rel => exact ⟨k + 1, by omega, by go_num, HE⟩
        case measure => simp [intOf]; omega
    · have hki : ¬ (k : Int) < s.size := by omega
      have HA := hide (show plainN s.data.toList = true by rw [← take_all s k (by omega)]; exact Hr.out)
      have HL := rletter8 s[0]
      obtain ⟨b, hb⟩ : ∃ b, isL s[0] = b := ⟨_, rfl⟩
      rw [hb] at HL
      replace hb := hide hb
      go_wp2_with (go_at_call 16; refine (HL.out _).mono ?_; rintro e w1 ⟨rfl, rfl⟩)
      go_ret
      exact ⟨ret_bool (by rw [HA.out, hb.out]; rfl), rfl⟩
set_option maxHeartbeats 4000000 in
theorem rblank8 (s : ByteArray) (i : Nat) (hs : s.size ≤ 65535) (hi : i < s.size) : CallIs 9 #[.string s, .int .i64 i] (.int .i64 (bl (s.data.toList.drop i))) := by
  intro w
  have hs' : s.size ≤ 9223372036854775807 := by omega
  have j1 : (i : Int) ≤ s.size := by omega
  have j2 : (s.size : Int) - i ≤ 9223372036854775807 := by omega
  have j3 : -9223372036854775808 ≤ (s.size : Int) - i := by omega
  obtain ⟨t, ht⟩ : ∃ t, s.extract i s.size = t := ⟨_, rfl⟩
  have htz : Hid (t.size = s.size - i) := hide (by rw [← ht]; exact ext_size s i)
  have hdc : Hid (∀ p, Utf8.decode t p = Utf8.decode s (i + p)) := hide (fun p => by rw [← ht]; exact dec_ext s i p)
  have hdb := dec_blank s i hi
  have hwp := wd_pos s i hi
  have hwl := wd_le s i hi
  have hr0 : Hid ((Utf8.decode t 0).1 = nr s i ∧ (Utf8.decode t 0).2 = wd s i) := hide (by rw [hdc.out 0]; exact ⟨rfl, rfl⟩)
  have hnl := nr_le s i
  generalize hrr : nr s i = r at *
  generalize hnn : wd s i = n at *
  replace hdb := hide hdb
  clear hrr hnn
  go_enter Tryd.func9, Tryd.ntmps9
  go_wp2_with fail
  go_loopw [5, 6] (fun f m wr => (wr = w.iter t 0 ∧ f = .int .i32 0 ∧ m = .int .i64 ((s.size : Int) - i)) ∨ (wr = w.iter t n ∧ f = .int .i32 r ∧ m = .int .i64 ((s.size : Int) - i))) (fun _ _ wr => t.size - wr.iterPos w.heap.size)
  case atStart => exact .inl ⟨rfl, rfl, rfl⟩
  case round =>
    rcases hrel with ⟨rfl, rfl, rfl⟩ | ⟨rfl, rfl, rfl⟩
    · have hp : 0 < t.size := by have := htz.out; omega
      have hnx : ∀ ty, (Instr.next (.pointer (some ⟨w.heap.size, 0, none⟩)) true ty).run Tryd.prog (w.iter t 0) = _ := fun ty => run_next_any w t 0 ty hp
      rw [hr0.out.1, hr0.out.2] at hnx
      go_wp2_with fail
      go_roundw
      case rel => exact .inr ⟨by simp, rfl, rfl⟩
      case measure => simp; omega
    · have hB := hide (iter_below w t n)
      by_cases hp : n < t.size
      · have hnx : ∀ ty, (Instr.next (.pointer (some ⟨w.heap.size, 0, none⟩)) true ty).run Tryd.prog (w.iter t n) = _ := fun ty => run_next_any w t n ty hp
        have hB := hide (iter_below w t (n + (Utf8.decode t n).2))
        have hn0 : (0 : Int) < n := by omega
        cases h0 : ((r : Int) == 9)
        · skip
          cases h1 : ((r : Int) == 10)
          · skip
            cases h2 : ((r : Int) == 13)
            · skip
              cases h3 : ((r : Int) == 32)
              · skip
                cases h4 : ((r : Int) == 160)
                · skip
                  cases h5 : ((r : Int) == 12288)
                  · skip
                    have hb : Hid (bl (s.data.toList.drop i) = 0) := hide (by
                      have hbr : blR r = false := by unfold blR; simp at *; omega
                      have := hdb.out.1; rw [hbr] at this; simp at this; exact this)
                    go_wp2_with fail
                    go_ret
                    exact ⟨ret_int (by rw [hb.out]; rfl), hB.out⟩
                  · skip
                    have hb : Hid (bl (s.data.toList.drop i) = n) := hide (by
                      have hbr : blR r = true := by unfold blR; simp at *; omega
                      exact (hdb.out.2 hbr).symm)
                    go_wp2_with fail
                    go_ret
                    exact ⟨ret_int (by rw [hb.out]), hB.out⟩
                · skip
                  have hb : Hid (bl (s.data.toList.drop i) = n) := hide (by
                    have hbr : blR r = true := by unfold blR; simp at *; omega
                    exact (hdb.out.2 hbr).symm)
                  go_wp2_with fail
                  go_ret
                  exact ⟨ret_int (by rw [hb.out]), hB.out⟩
              · skip
                have hb : Hid (bl (s.data.toList.drop i) = n) := hide (by
                  have hbr : blR r = true := by unfold blR; simp at *; omega
                  exact (hdb.out.2 hbr).symm)
                go_wp2_with fail
                go_ret
                exact ⟨ret_int (by rw [hb.out]), hB.out⟩
            · skip
              have hb : Hid (bl (s.data.toList.drop i) = n) := hide (by
                have hbr : blR r = true := by unfold blR; simp at *; omega
                exact (hdb.out.2 hbr).symm)
              go_wp2_with fail
              go_ret
              exact ⟨ret_int (by rw [hb.out]), hB.out⟩
          · skip
            have hb : Hid (bl (s.data.toList.drop i) = n) := hide (by
              have hbr : blR r = true := by unfold blR; simp at *; omega
              exact (hdb.out.2 hbr).symm)
            go_wp2_with fail
            go_ret
            exact ⟨ret_int (by rw [hb.out]), hB.out⟩
        · skip
          have hb : Hid (bl (s.data.toList.drop i) = n) := hide (by
            have hbr : blR r = true := by unfold blR; simp at *; omega
            exact (hdb.out.2 hbr).symm)
          go_wp2_with fail
          go_ret
          exact ⟨ret_int (by rw [hb.out]), hB.out⟩
      · have hnx : ∀ ty, (Instr.next (.pointer (some ⟨w.heap.size, 0, none⟩)) true ty).run Tryd.prog (w.iter t n) = _ := fun ty => run_next_end w t n ty hp
        have hnn : Hid ((s.size : Int) - i = n) := hide (by have := htz.out; omega)
        rw [hnn.out]
        cases h0 : ((r : Int) == 9)
        · skip
          cases h1 : ((r : Int) == 10)
          · skip
            cases h2 : ((r : Int) == 13)
            · skip
              cases h3 : ((r : Int) == 32)
              · skip
                cases h4 : ((r : Int) == 160)
                · skip
                  cases h5 : ((r : Int) == 12288)
                  · skip
                    have hb : Hid (bl (s.data.toList.drop i) = 0) := hide (by
                      have hbr : blR r = false := by unfold blR; simp at *; omega
                      have := hdb.out.1; rw [hbr] at this; simp at this; exact this)
                    go_wp2_with fail
                    go_ret
                    exact ⟨ret_int (by rw [hb.out]; rfl), hB.out⟩
                  · skip
                    have hb : Hid (bl (s.data.toList.drop i) = n) := hide (by
                      have hbr : blR r = true := by unfold blR; simp at *; omega
                      exact (hdb.out.2 hbr).symm)
                    go_wp2_with fail
                    go_ret
                    exact ⟨ret_int (by rw [hb.out]), hB.out⟩
                · skip
                  have hb : Hid (bl (s.data.toList.drop i) = n) := hide (by
                    have hbr : blR r = true := by unfold blR; simp at *; omega
                    exact (hdb.out.2 hbr).symm)
                  go_wp2_with fail
                  go_ret
                  exact ⟨ret_int (by rw [hb.out]), hB.out⟩
              · skip
                have hb : Hid (bl (s.data.toList.drop i) = n) := hide (by
                  have hbr : blR r = true := by unfold blR; simp at *; omega
                  exact (hdb.out.2 hbr).symm)
                go_wp2_with fail
                go_ret
                exact ⟨ret_int (by rw [hb.out]), hB.out⟩
            · skip
              have hb : Hid (bl (s.data.toList.drop i) = n) := hide (by
                have hbr : blR r = true := by unfold blR; simp at *; omega
                exact (hdb.out.2 hbr).symm)
              go_wp2_with fail
              go_ret
              exact ⟨ret_int (by rw [hb.out]), hB.out⟩
          · skip
            have hb : Hid (bl (s.data.toList.drop i) = n) := hide (by
              have hbr : blR r = true := by unfold blR; simp at *; omega
              exact (hdb.out.2 hbr).symm)
            go_wp2_with fail
            go_ret
            exact ⟨ret_int (by rw [hb.out]), hB.out⟩
        · skip
          have hb : Hid (bl (s.data.toList.drop i) = n) := hide (by
            have hbr : blR r = true := by unfold blR; simp at *; omega
            exact (hdb.out.2 hbr).symm)
          go_wp2_with fail
          go_ret
          exact ⟨ret_int (by rw [hb.out]), hB.out⟩
end Go.Proofs.YtcabgnikbgoikaaDoor
