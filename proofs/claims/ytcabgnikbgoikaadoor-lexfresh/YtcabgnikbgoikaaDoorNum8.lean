/- What lex.wordOfNumber answers, for every text of ASCII bytes: proved of the Go text. -/
import Derived.Test.YtcabgnikbgoikaaDoorLeaf8
namespace Go.Proofs.YtcabgnikbgoikaaDoor
open Go.RowKit Go.Sort
set_option linter.unusedVariables false

theorem dig_rune (s : ByteArray) (p : Nat) (h : p < s.size) (hc : s[p].toNat < 128) : digR (nr s p) = dig s[p] := by rw [(dec_low s p h hc).1]; rfl
theorem dgs_step8 (s : ByteArray) (k : Nat) (h : k < s.size) (hd : dgs (s.data.toList.take k) = true) (hc : dig s[k] = true) : dgs (s.data.toList.take (k + 1)) = true := by rw [take_snoc s k h, dgs_snoc, hd, hc]; rfl
theorem dgs_stop8 (s : ByteArray) (k : Nat) (h : k < s.size) (hc : dig s[k] = false) : dgs s.data.toList = false := by
  rw [Bool.eq_false_iff]
  intro hd
  have := dgs_at s k h hd
  simp [dig] at hc
  omega
theorem low_at {s : ByteArray} (h : ∀ c ∈ s.data.toList, c.toNat < 128) (k : Nat) (hk : k < s.size) : s[k].toNat < 128 := h _ (by rw [show s[k] = s.data.toList[k]'(by simpa using hk) from rfl]; exact List.getElem_mem _)
theorem dw_dgs {l : List UInt8} (h : dgs l = true) : dgs (l.dropWhile (· == 48)) = true := by
  unfold dgs at *
  rw [List.all_eq_true] at *
  exact fun x hx => h x ((List.dropWhile_sublist _).subset hx)
theorem dw_num {l : List UInt8} (h : dgs l = true) (hn : l.dropWhile (· == 48) ≠ []) : numL (l.dropWhile (· == 48)) = true := by
  have hd := dw_dgs h
  cases hc : l.dropWhile (· == 48) with
  | nil => exact absurd hc hn
  | cons c r =>
    rw [hc] at hd
    have h48 : (c == 48) = false := by
      have := List.head?_dropWhile_not (· == (48 : UInt8)) l
      rw [hc] at this
      simpa using this
    simp only [numL, hd, Bool.and_true]
    rw [bne, h48]; rfl
theorem form_of_num (t : ByteArray) (h : numL t.data.toList = true) : formB t = true ∧ 0 < t.size ∧ ∀ hp : 0 < t.size, ((t[0].toNat : Int) == 45) = false := by
  have hp : 0 < t.size := by
    rw [Lib.size_eq]
    cases hl : t.data.toList with
    | nil => rw [hl] at h; cases h
    | cons c r => simp
  obtain ⟨r, hr⟩ := toList_cons t hp
  have h45 : ¬ t[0] = 45 := by
    intro e
    rw [hr, e] at h
    simp [numL, dgs, dig] at h
  refine ⟨?_, hp, fun _ => by rw [eq_45]; simpa using h45⟩
  unfold formB formL
  rw [hr] at h ⊢
  have e : unsig (t[0] :: r) = t[0] :: r := if_neg h45
  rw [e, h]; simp
/-- whole.Read of digits without leading zeros: an error just if they are too great. -/
theorem readN (t : ByteArray) (hs : t.size ≤ maxLen) (h : numL t.data.toList = true ∨ t.data.toList = [48]) :
    ∃ v e : Int, (CallS 52 #[.string t] (.tuple #[.int .i64 v, .int .i64 e])) ∧ ((e != 0) = decide (9223372036854775807 < val t.data.toList)) := by
  have hf : formB t = true ∧ 0 < t.size ∧ ∀ hp : 0 < t.size, ((t[0].toNat : Int) == 45) = false := by
    rcases h with h | h
    · exact form_of_num t h
    · have hp : 0 < t.size := by rw [Lib.size_eq, h]; decide
      refine ⟨by unfold formB; rw [h]; rfl, hp, fun hp => ?_⟩
      obtain ⟨r, hr⟩ := toList_cons t hp
      rw [h] at hr
      rw [eq_45, ← (List.cons.inj hr).1]; decide
  obtain ⟨h1, h2, h3⟩ := hf
  by_cases hv : val t.data.toList ≤ 9223372036854775807
  · refine ⟨(val t.data.toList : Int), 0, fun w => (read_pos t w hs h1 h2 (h3 h2) hv).mono ?_, ?_⟩
    · exact fun e w' h => h
    · simp; omega
  · refine ⟨0, 13, fun w => (read_posover t w hs h1 h2 (h3 h2) (by omega)).mono ?_, ?_⟩
    · exact fun e w' h => h
    · simp; omega
set_option maxHeartbeats 2000000 in
theorem wordOfNumber8 (s : ByteArray) (hs : s.size ≤ 65535) (hr : ∀ c ∈ s.data.toList, c.toNat < 128) : CallIs 37 #[.string s] (tokV (numTok s.data.toList)) := by
  intro w
  have hlow := hide (low_at hr)
  clear hr
  have hs' : s.size ≤ 9223372036854775807 := by omega
  obtain ⟨w1, hw1⟩ : ∃ w1, w.alloc (wdO 0 no 0) = w1 := ⟨_, rfl⟩
  have B1 : Hid (Below w.heap.size w w1) := hide (by rw [← hw1]; exact step (Below.refl _ _) _)
  have bk : Hid (Blk w1 w.heap.size #[.int .i64 0, .string no, .int .i64 0] 32) := hide (by rw [← hw1]; exact Blk.new _ _ _)
  go_enter Tryd.func37, Tryd.ntmps37
  go_wp2_with fail
  go_loopw [5] (fun _ wr => ∃ pos : Nat, pos ≤ s.size ∧ wr = w1.iter s pos ∧ Hid (dgs (s.data.toList.take pos) = true)) (fun _ wr => s.size - wr.iterPos w1.heap.size)
  case atStart => exact ⟨0, Nat.zero_le _, rfl, rfl⟩
  case round =>
    obtain ⟨pos, hle, rfl, hd⟩ := hrel
    by_cases hp : pos < s.size
    · have hnx : ∀ ty, (Instr.next (.pointer (some ⟨w1.heap.size, 0, none⟩)) true ty).run Tryd.prog (w1.iter s pos) = _ := fun ty => run_next_any w1 s pos ty hp
      have hwd := hide (And.intro (wd_pos s pos hp) (wd_le s pos hp))
      have hw1' := hide ((dec_low s pos hp (hlow.out pos hp)).2)
      have HD := isDigit8 (nr s pos)
      rw [dig_rune s pos hp (hlow.out pos hp)] at HD
      cases hc : dig s[pos]
      · rw [hc] at HD
        have HN : Hid (tokV (numTok s.data.toList) = .tuple #[wdV 0 no 0, .int .i64 21]) := hide (by unfold numTok; rw [dgs_stop8 s pos hp hc]; rfl)
        have bk2 := hide (bk.out.keep (iter_below w1 s (pos + (Utf8.decode s pos).2)))
        obtain ⟨b0, b1, b2⟩ := bk2.out.cells3
        have bf := bk2.out.fr
        have B2 := hide (next B1.out (iter_below w1 s (pos + (Utf8.decode s pos).2)))
        go_wp2_with (go_at_call 35; refine (HD.out _).mono ?_; rintro e w2 ⟨rfl, rfl⟩)
        obtain ⟨w3, hw3⟩ : ∃ w3, (((w1.iter s (pos + (Utf8.decode s pos).2)).setCell ⟨w.heap.size, 0, none⟩ (.int .i64 0)).setCell ⟨w.heap.size, 1, none⟩ (.string no)).setCell ⟨w.heap.size, 2, none⟩ (.int .i64 0) = w3 := ⟨_, rfl⟩
        have bkw3 : Blk w3 w.heap.size #[.int .i64 0, .string no, .int .i64 0] 32 := by rw [← hw3]; exact bk2.out.put3 _ _ _
        have Bw3 : Below w.heap.size w w3 := by rw [← hw3]; exact below_put3 B2.out (Nat.le_refl _) _ _ _
        rw [hw3]
        obtain ⟨d0, d1, d2⟩ := bkw3.cells3
        refine bodyPost_ret (by simp [results, Tryd.results37, go_sem, d0, d1, d2]; try rfl) rfl ?_
        exact ⟨by rw [HN.out], Bw3⟩
      · rw [hc] at HD
        have HN := hide (dgs_step8 s pos hp hd.out hc)
        go_wp2_with (go_at_call 35; refine (HD.out _).mono ?_; rintro e w2 ⟨rfl, rfl⟩)
        go_roundw
        case rel =>
          have := hwd.out
          refine ⟨pos + wd s pos, by omega, rfl, ?_⟩
          rw [hw1'.out]; exact HN
        case measure =>
          have := hwd.out
          simp
          unfold wd at this
          omega
    · have hnx : ∀ ty, (Instr.next (.pointer (some ⟨w1.heap.size, 0, none⟩)) true ty).run Tryd.prog (w1.iter s pos) = _ := fun ty => run_next_end w1 s pos ty hp
      have HA := hide (show dgs s.data.toList = true by rw [← take_all s pos (by omega)]; exact hd.out)
      have bk2 := hide (bk.out.keep (iter_below w1 s pos))
      have B2 := hide (next B1.out (iter_below w1 s pos))
      obtain ⟨d, hd'⟩ : ∃ d, s.data.toList.dropWhile (· == 48) = d := ⟨_, rfl⟩
      have hdl : Hid (d.length ≤ 65535) := hide (by rw [← hd']; have := (List.dropWhile_sublist (p := (· == (48 : UInt8))) (l := s.data.toList)).length_le; have := Lib.size_eq s; omega)
      have hT' : Hid (Lib.trimLeftB s.data.toList 48 = d) := hide hd'
      have HT : CallS 51 #[.string s, .string (ba [48])] (.string (ba d)) := fun w => by rw [← hT'.out]; exact Tryd.strings_TrimLeft_one s 48 (by decide) w
      obtain ⟨w2, hw2⟩ : ∃ w2, w1.iter s pos = w2 := ⟨_, rfl⟩
      rw [hw2] at bk2 B2 hnx ⊢
      clear hw2
      obtain ⟨b0, b1, b2⟩ := bk2.out.cells3
      have bf := bk2.out.fr
      by_cases hz : d = []
      · have hb : Hid (trim0 s.data.toList = [48]) := hide (by unfold trim0; rw [hd', hz]; rfl)
        obtain ⟨v, e, HR, he⟩ := readN (ba [48]) (by decide) (.inr rfl)
        have he0 : (e != 0) = false := by rw [he]; decide
        clear he
        have HN : Hid (tokV (numTok s.data.toList) = .tuple #[wdV 1 (ba [48]) 0, .int .i64 0]) := hide (by
          have : numTok s.data.toList = .ok 1 [48] s.data.toList.length := by unfold numTok; rw [HA.out, hb.out, if_pos rfl, if_pos (by decide)]
          rw [this]; rfl)
        subst hz
        go_wp2_with fail
        refine (HT.out _).mono ?_
        rintro e1 w4 ⟨rfl, rfl⟩
        go_wp2_with fail
        refine (HR.out _).mono ?_
        rintro e1 w4 ⟨rfl, rfl⟩
        go_wp2_with fail
        obtain ⟨w3, hw3⟩ : ∃ w3, ((w4.setCell ⟨w.heap.size, 0, none⟩ (.int .i64 1)).setCell ⟨w.heap.size, 1, none⟩ (.string (ba [48]))).setCell ⟨w.heap.size, 2, none⟩ (.int .i64 0) = w3 := ⟨_, rfl⟩
        have bkw3 : Blk w3 w.heap.size #[.int .i64 1, .string (ba [48]), .int .i64 0] 32 := by rw [← hw3]; exact bk2.out.put3 _ _ _
        have Bw3 : Below w.heap.size w w3 := by rw [← hw3]; exact below_put3 B2.out (Nat.le_refl _) _ _ _
        rw [hw3]
        obtain ⟨d0, d1, d2⟩ := bkw3.cells3
        refine bodyPost_ret (by simp [results, Tryd.results37, go_sem, d0, d1, d2]; try rfl) rfl ?_
        exact ⟨by rw [HN.out], Bw3⟩
      · have hb : Hid (trim0 s.data.toList = d) := hide (by unfold trim0; rw [hd', if_neg (by simpa using hz)])
        have hnum : numL d = true := by rw [← hd']; exact dw_num HA.out (by rw [hd']; exact hz)
        obtain ⟨v, e, HR, he⟩ := readN (ba d) (by rw [ba_size]; unfold maxLen; have := hdl.out; omega) (.inl (by rw [ba_list]; exact hnum))
        rw [ba_list] at he
        have hsz := hide (ba_size d)
        obtain ⟨t, ht⟩ : ∃ t, ba d = t := ⟨_, rfl⟩
        have htp : 0 < t.size := by rw [← ht, hsz.out]; exact List.length_pos_iff.2 hz
        have n1 := toList_ne t htp
        have n2 := isEmpty_ne t htp
        clear hnum hT'
        replace hz := hide hz
        replace hd' := hide hd'
        by_cases hv : val d ≤ 9223372036854775807
        · have he0 : (e != 0) = false := by rw [he]; simp; omega
          have HN : Hid (tokV (numTok s.data.toList) = .tuple #[wdV 1 t 0, .int .i64 0]) := hide (by
            have : numTok s.data.toList = .ok 1 d s.data.toList.length := by unfold numTok; rw [HA.out, hb.out, if_pos rfl, if_pos hv]
            rw [this, ← ht]; rfl)
          clear he hv
          rw [ht] at HR HT
          clear ht
          go_wp2_with fail
          refine (HT.out _).mono ?_
          rintro e1 w4 ⟨rfl, rfl⟩
          go_wp2_with fail
          refine (HR.out _).mono ?_
          rintro e1 w4 ⟨rfl, rfl⟩
          go_wp2_with fail
          obtain ⟨w3, hw3⟩ : ∃ w3, ((w4.setCell ⟨w.heap.size, 0, none⟩ (.int .i64 1)).setCell ⟨w.heap.size, 1, none⟩ (.string t)).setCell ⟨w.heap.size, 2, none⟩ (.int .i64 0) = w3 := ⟨_, rfl⟩
          have bkw3 : Blk w3 w.heap.size #[.int .i64 1, .string t, .int .i64 0] 32 := by rw [← hw3]; exact bk2.out.put3 _ _ _
          have Bw3 : Below w.heap.size w w3 := by rw [← hw3]; exact below_put3 B2.out (Nat.le_refl _) _ _ _
          rw [hw3]
          obtain ⟨d0, d1, d2⟩ := bkw3.cells3
          refine bodyPost_ret (by simp [results, Tryd.results37, go_sem, d0, d1, d2]; try rfl) rfl ?_
          exact ⟨by rw [HN.out], Bw3⟩
        · have he0 : (e != 0) = true := by rw [he]; simp; omega
          have HN : Hid (tokV (numTok s.data.toList) = .tuple #[wdV 0 no 0, .int .i64 12]) := hide (by
            have : numTok s.data.toList = .bad 12 := by unfold numTok; rw [HA.out, hb.out, if_pos rfl, if_neg hv]
            rw [this]; rfl)
          clear he hv
          rw [ht] at HR HT
          clear ht
          go_wp2_with fail
          refine (HT.out _).mono ?_
          rintro e1 w4 ⟨rfl, rfl⟩
          go_wp2_with fail
          refine (HR.out _).mono ?_
          rintro e1 w4 ⟨rfl, rfl⟩
          go_wp2_with fail
          obtain ⟨w3, hw3⟩ : ∃ w3, ((w4.setCell ⟨w.heap.size, 0, none⟩ (.int .i64 0)).setCell ⟨w.heap.size, 1, none⟩ (.string no)).setCell ⟨w.heap.size, 2, none⟩ (.int .i64 0) = w3 := ⟨_, rfl⟩
          have bkw3 : Blk w3 w.heap.size #[.int .i64 0, .string no, .int .i64 0] 32 := by rw [← hw3]; exact bk2.out.put3 _ _ _
          have Bw3 : Below w.heap.size w w3 := by rw [← hw3]; exact below_put3 B2.out (Nat.le_refl _) _ _ _
          rw [hw3]
          obtain ⟨d0, d1, d2⟩ := bkw3.cells3
          refine bodyPost_ret (by simp [results, Tryd.results37, go_sem, d0, d1, d2]; try rfl) rfl ?_
          exact ⟨by rw [HN.out], Bw3⟩
end Go.Proofs.YtcabgnikbgoikaaDoor
