/- LexPlaces of a text that is no formula's words: true. Proved of the Go text. -/
import Derived.Test.YtljdkmfigcclkaaDoorLen8
import Derived.Test.YtljdkmfigcclkaaDoorPlW8
namespace Go.Proofs.YtljdkmfigcclkaaDoor
open Go.RowKit Go.Sort
set_option linter.unusedVariables false

theorem cutR_pre {s : ByteArray} {i e : Nat} (h : cutR s = .bad i e) : i ≤ s.size ∧ ((65535 < s.size ∧ i = 0 ∧ e = 2) ∨ (s.size ≤ 65535 ∧ i < s.size ∧ (e = 12 ∨ e = 21) ∧ ∃ ws, cutR (s.extract 0 i) = .ok ws)) := by
  have hx := cutR_bad h
  by_cases hs : 65535 < s.size
  · unfold cutR at h
    rw [if_pos hs] at h
    cases h
    exact ⟨Nat.zero_le _, .inl ⟨hs, rfl, rfl⟩⟩
  · have h' := h
    unfold cutR at h'
    rw [if_neg hs] at h'
    obtain ⟨_, h2, _, ws, h4⟩ := cut_pre refL s.data.toList i e _ 0 [] (Nat.le_refl _) (Nat.zero_le _) h'
    rw [← Lib.size_eq] at h2
    refine ⟨by omega, .inr ⟨by omega, h2, ?_, ws, ?_⟩⟩
    · rcases hx with rfl | h | h
      · exfalso
        have go : ∀ (f : Nat) (l : List UInt8) (j : Nat) (acc : List Wd), l.length ≤ f → cutA refL l j acc ≠ .bad i 2 := by
          intro f
          induction f with
          | zero =>
            intro l j acc hf h
            have : l = [] := List.eq_nil_of_length_eq_zero (by omega)
            subst this
            rw [cut_end] at h; cases h
          | succ f ih =>
            intro l j acc hf h
            by_cases hl : l = []
            · subst hl; rw [cut_end] at h; cases h
            have hbl := bl_len l
            by_cases hb : 0 < bl l
            · rw [cut_blank refL hb] at h
              exact ih _ _ _ (by rw [List.length_drop]; omega) h
            · cases ht : tok refL l with
              | bad e' =>
                rw [cut_bad refL hl (by omega) ht] at h
                have := tok_bad8 ht
                cases h
                omega
              | ok k t n =>
                have hn := tok_len ht
                rw [cut_word refL (by omega) ht] at h
                exact ih _ _ _ (by rw [List.length_drop]; omega) h
        exact go _ _ _ _ (Nat.le_refl _) h'
      · exact .inl h
      · exact .inr h
    · rw [List.drop_zero] at h4
      unfold cutR
      rw [if_neg (by rw [ext_sz s 0 i (by omega)]; omega), show (s.extract 0 i).data.toList = s.data.toList.take i by rw [ba_ext s 0 i (by omega), ba_list]; simp [slc]]
      exact h4
set_option maxRecDepth 100000 in
set_option maxHeartbeats 8000000 in
theorem lexPl_bad {W : World} (hL : Lay8 W) (s : ByteArray) (hm : s.size ≤ maxLen) {at' x : Nat} (hc : cutR s = .bad at' x) :
    Calls Tryd.prog 5 #[.string s] W fun e w' => e = .returned (.bool true) ∧ Below W.heap.size W w' := by
  have H1 := hide (begun8.out W hL)
  have H2 := hide (fun w hl => cut8 s w hl hm)
  rw [hc] at H2
  replace hL := hide hL
  have hm' : s.size ≤ 9223372036854775807 := hm
  obtain ⟨hle, h⟩ := cutR_pre hc
  have a0 : ¬ (at' : Int) < 0 := by omega
  have a1 : ¬ (s.size : Int) < at' := by omega
  clear hc
  rcases h with ⟨hs, rfl, rfl⟩ | ⟨hs, hlt, hx, ws, hw⟩
  · have b1 : (65535 : Int) < s.size := by omega
    have b2 : ((0 : Int) == (s.size : Int)) = false := by rw [beq_eq_false_iff_ne]; omega
    go_enter Tryd.func5, Tryd.ntmps5
    go_wp2_with fail
    refine H1.out.mono ?_
    rintro e w1 ⟨rfl, hb1⟩
    have HC := hide (H2.out w1 (hL.out.keep hb1))
    replace hb1 := hide hb1
    go_wp2_with fail
    refine HC.out.mono ?_
    rintro e w2 ⟨hb2, rfl⟩
    replace hb2 := hide hb2
    go_wp2_with fail
    go_ret
    exact ⟨rfl, next hb1.out hb2.out⟩
  · have b1 : ¬ (65535 : Int) < s.size := by omega
    have b2 : ((at' : Int) == (s.size : Int)) = false := by rw [beq_eq_false_iff_ne]; omega
    have H3 := hide (fun w hl => cut8 (s.extract 0 at') w hl (by rw [ext_sz s 0 at' hle]; unfold maxLen; omega))
    rw [hw] at H3
    obtain ⟨t, ht⟩ : ∃ t, s.extract 0 at' = t := ⟨_, rfl⟩
    rw [ht] at H3
    clear hw
    rcases hx with rfl | rfl
    · by_cases p0 : at' = 0
      · subst p0
        go_enter Tryd.func5, Tryd.ntmps5
        go_wp2_with fail
        refine H1.out.mono ?_
        rintro e w1 ⟨rfl, hb1⟩
        have HC := hide (H2.out w1 (hL.out.keep hb1))
        replace hb1 := hide hb1
        go_wp2_with fail
        refine HC.out.mono ?_
        rintro e w2 ⟨hb2, rfl⟩
        have hB2 := hide (next hb1.out hb2)
        clear hb1 hb2 H3 H2 H1 HC
        go_wp2_with fail
        go_ret
        exact ⟨rfl, hB2.out⟩
      · have p1 : (0 : Int) < at' := by omega
        by_cases p3 : at' ≤ 3000
        · have p4 : (at' : Int) ≤ 3000 := by omega
          go_enter Tryd.func5, Tryd.ntmps5
          go_wp2_with fail
          refine H1.out.mono ?_
          rintro e w1 ⟨rfl, hb1⟩
          have HC := hide (H2.out w1 (hL.out.keep hb1))
          replace hb1 := hide hb1
          go_wp2_with fail
          refine HC.out.mono ?_
          rintro e w2 ⟨hb2, rfl⟩
          have hB2 := hide (next hb1.out hb2)
          have HD := hide (H3.out w2 (hL.out.keep hB2.out))
          clear hb1 hb2 H3 H2 H1 HC
          go_wp2_with fail
          refine HD.out.mono ?_
          rintro e w3 ⟨hb3, v, rfl, hrow⟩
          have hB3 := hide (next hB2.out hb3)
          clear hb3 hrow
          go_wp2_with fail
          go_ret
          exact ⟨rfl, hB3.out⟩
        · have p4 : ¬ (at' : Int) ≤ 3000 := by omega
          go_enter Tryd.func5, Tryd.ntmps5
          go_wp2_with fail
          refine H1.out.mono ?_
          rintro e w1 ⟨rfl, hb1⟩
          have HC := hide (H2.out w1 (hL.out.keep hb1))
          replace hb1 := hide hb1
          go_wp2_with fail
          refine HC.out.mono ?_
          rintro e w2 ⟨hb2, rfl⟩
          have hB2 := hide (next hb1.out hb2)
          clear hb1 hb2 H3 H2 H1 HC
          go_wp2_with fail
          go_ret
          exact ⟨rfl, hB2.out⟩
    · by_cases p0 : at' = 0
      · subst p0
        go_enter Tryd.func5, Tryd.ntmps5
        go_wp2_with fail
        refine H1.out.mono ?_
        rintro e w1 ⟨rfl, hb1⟩
        have HC := hide (H2.out w1 (hL.out.keep hb1))
        replace hb1 := hide hb1
        go_wp2_with fail
        refine HC.out.mono ?_
        rintro e w2 ⟨hb2, rfl⟩
        have hB2 := hide (next hb1.out hb2)
        clear hb1 hb2 H3 H2 H1 HC
        go_wp2_with fail
        go_ret
        exact ⟨rfl, hB2.out⟩
      · have p1 : (0 : Int) < at' := by omega
        by_cases p3 : at' ≤ 3000
        · have p4 : (at' : Int) ≤ 3000 := by omega
          go_enter Tryd.func5, Tryd.ntmps5
          go_wp2_with fail
          refine H1.out.mono ?_
          rintro e w1 ⟨rfl, hb1⟩
          have HC := hide (H2.out w1 (hL.out.keep hb1))
          replace hb1 := hide hb1
          go_wp2_with fail
          refine HC.out.mono ?_
          rintro e w2 ⟨hb2, rfl⟩
          have hB2 := hide (next hb1.out hb2)
          have HD := hide (H3.out w2 (hL.out.keep hB2.out))
          clear hb1 hb2 H3 H2 H1 HC
          go_wp2_with fail
          refine HD.out.mono ?_
          rintro e w3 ⟨hb3, v, rfl, hrow⟩
          have hB3 := hide (next hB2.out hb3)
          clear hb3 hrow
          go_wp2_with fail
          go_ret
          exact ⟨rfl, hB3.out⟩
        · have p4 : ¬ (at' : Int) ≤ 3000 := by omega
          go_enter Tryd.func5, Tryd.ntmps5
          go_wp2_with fail
          refine H1.out.mono ?_
          rintro e w1 ⟨rfl, hb1⟩
          have HC := hide (H2.out w1 (hL.out.keep hb1))
          replace hb1 := hide hb1
          go_wp2_with fail
          refine HC.out.mono ?_
          rintro e w2 ⟨hb2, rfl⟩
          have hB2 := hide (next hb1.out hb2)
          clear hb1 hb2 H3 H2 H1 HC
          go_wp2_with fail
          go_ret
          exact ⟨rfl, hB2.out⟩
end Go.Proofs.YtljdkmfigcclkaaDoor
