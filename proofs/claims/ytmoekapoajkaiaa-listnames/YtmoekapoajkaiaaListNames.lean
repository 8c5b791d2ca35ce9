/- ListNames: the law's walk. -/
import Derived.Test.YtmoekapoajkaiaaBegun13
namespace Go.Proofs.Ytmoekapoajkaiaa
open Go.RowKit Go.Sort Go.Maps
set_option linter.unusedVariables false

def okRow (r : ByteArray × Int × Int) : Bool := decide (0 < r.1.size) && r.1.data.all (fun x => decide (65 ≤ x.toNat ∧ x.toNat ≤ 90)) && decide (0 ≤ r.2.1) && (decide (r.2.2 = -1) || decide (r.2.1 ≤ r.2.2))
theorem rows_ok : ∀ k, k < 76 → okRow (tab.getD k (no, 0, 0)) = true := by decide +kernel
theorem row_ok (k : Nat) (hk : k < 76) : 0 < (nm k).size ∧ (∀ j (hj : j < (nm k).size), 65 ≤ ((nm k).data[j]'hj).toNat ∧ ((nm k).data[j]'hj).toNat ≤ 90) ∧ 0 ≤ (tab[k]'(by rw [tab_len]; exact hk)).2.1 ∧ ((tab[k]'(by rw [tab_len]; exact hk)).2.2 = -1 ∨ (tab[k]'(by rw [tab_len]; exact hk)).2.1 ≤ (tab[k]'(by rw [tab_len]; exact hk)).2.2) := by
  have h := rows_ok k hk
  have e : tab.getD k (no, 0, 0) = tab[k]'(by rw [tab_len]; exact hk) := by
    rw [List.getD_eq_getElem?_getD, List.getElem?_eq_getElem (by rw [tab_len]; exact hk)]; rfl
  rw [e] at h
  rw [← nm_eq k hk]
  generalize tab[k] = r at *
  unfold okRow at h
  simp only [Bool.and_eq_true, Bool.or_eq_true, decide_eq_true_eq, Array.all_eq_true] at h
  exact ⟨h.1.1.1, fun j hj => h.1.1.2 j hj, h.1.2, h.2⟩
theorem cls_ok (k : Nat) (hk : k < 76) : 1 ≤ clsOf ((k : Int) + 1) ∧ clsOf ((k : Int) + 1) ≤ 6 := by
  unfold clsOf
  split <;> (try split) <;> (try split) <;> (try split) <;> (try split) <;> omega
theorem info_zero (w : World) : Calls Try.prog 9 #[.int .i64 0] w fun e w' => e = .returned (.tuple #[fnV no 0 0 0, .int .i64 1]) ∧ Below w.heap.size w w' := info_no 0 (by omega) w
theorem info_nm (k : Nat) (hk : k < 76) (w : World) : Calls Try.prog 9 #[.int .i64 ((k : Int) + 1)] w fun e w' => e = .returned (.tuple #[fnV (nm k) (clsOf ((k : Int) + 1)) (tab[k]'(by rw [tab_len]; exact hk)).2.1 (tab[k]'(by rw [tab_len]; exact hk)).2.2, .int .i64 0]) ∧ Below w.heap.size w w' := by
  rw [← nm_eq k hk]; exact info_yes k hk w
set_option maxHeartbeats 4000000 in
set_option maxRecDepth 100000 in
theorem names_yy (s : ByteArray) (f : Int) (i : Nat) (hi : i < 76) (hs : nm i = s) (k : Nat) (hk : k < 76) (hf : f = (k : Int) + 1) (w : World) : Calls Try.prog 5 #[.string s, .int .i64 f] w fun e w' => e = .returned (.bool true) ∧ Below w.heap.size w w' := by
  have HG := hide (begun13 w)
  have H1 := hide (fun w => find_yes i hi w)
  have H2 := hide (fun w => info_nm i hi w)
  rw [hs] at H1 H2
  have ci : ((i : Int) + 1 == 0) = false := by rw [beq_eq_false_iff_ne]; omega
  have ci' : ((i : Int) + 1 != 0) = true := by rw [bne, ci]; rfl
  generalize clsOf ((i : Int) + 1) = c1 at *
  generalize (tab[i]'(by rw [tab_len]; exact hi)).2.1 = m1 at *
  generalize (tab[i]'(by rw [tab_len]; exact hi)).2.2 = x1 at *
  clear hs hi
  subst hf
  have H3 := hide (fun w => info_nm k hk w)
  have H4 := hide (fun w => find_yes k hk w)
  obtain ⟨o1, o2, o3, o4⟩ := row_ok k hk
  obtain ⟨o5, o6⟩ := cls_ok k hk
  have o1' : 0 < ((nm k).size : Int) := by omega
  have hsz : Hid ((nm k).size ≤ 10) := hide (nm_small k hk)
  generalize clsOf ((k : Int) + 1) = c2 at *
  generalize (tab[k]'(by rw [tab_len]; exact hk)).2.1 = m2 at *
  generalize (tab[k]'(by rw [tab_len]; exact hk)).2.2 = x2 at *
  generalize nm k = t at *
  replace o2 := hide o2
  clear hk
  go_enter Try.func5, Try.ntmps5
  go_wp2_with (first
    | (go_at_call 6; refine HG.out.mono ?_; rintro e w0 ⟨rfl, hb⟩; have b0 := hide hb; clear hb HG)
    | (go_at_call 7; refine (H1.out _).mono ?_; rintro e w1 ⟨rfl, hb⟩; have b1 := hide (next b0.out hb); clear hb H1 b0)
    | (go_at_call 9; refine (H2.out _).mono ?_; rintro e w2 ⟨rfl, hb⟩; have b2 := hide (step (next b1.out hb) (.cells #[.string s, .int .i64 c1, .int .i64 m1, .int .i64 x1] 28)); have X2 := Blk.new w2 #[.string s, .int .i64 c1, .int .i64 m1, .int .i64 x1] 28; have z0 := X2.at' 0; have z1 := X2.at' 1; have z2 := X2.at' 2; have z3 := X2.at' 3; simp only [List.getElem?_toArray, List.getElem?_cons_zero, List.getElem?_cons_succ] at z0 z1 z2 z3; clear hb H2 b1 X2)
    | (go_at_call 9; refine (H3.out _).mono ?_; rintro e w3 ⟨rfl, hb⟩; have b3 := hide (step (next b2.out hb) (.cells #[.string t, .int .i64 c2, .int .i64 m2, .int .i64 x2] 28)); clear z0 z1 z2 z3; have X3 := Blk.new w3 #[.string t, .int .i64 c2, .int .i64 m2, .int .i64 x2] 28; have z0 := X3.at' 0; have z1 := X3.at' 1; have z2 := X3.at' 2; have z3 := X3.at' 3; simp only [List.getElem?_toArray, List.getElem?_cons_zero, List.getElem?_cons_succ] at z0 z1 z2 z3; replace X3 := hide X3; clear hb H3 b2)
    | (refine wpList_store_new rfl 28 _ _ rfl _ #[.string s, .int .i64 c1, .int .i64 m1, .int .i64 x1] _ rfl rfl (by rfl) (fn_info _ _ _ _) rfl (by rfl) ?_)
    | (refine wpList_store_new rfl 28 _ _ rfl _ #[.string t, .int .i64 c2, .int .i64 m2, .int .i64 x2] _ rfl rfl (by rfl) (fn_info _ _ _ _) rfl (by rfl) ?_)
    | (go_at_call 7; refine (H4.out _).mono ?_; rintro e w4 ⟨rfl, hb⟩; have b4 := hide (next b3.out hb); have X4 := X3.out.keep hb; clear z0 z1 z2 z3; have z0 := X4.at' 0; have z1 := X4.at' 1; have z2 := X4.at' 2; have z3 := X4.at' 3; simp only [List.getElem?_toArray, List.getElem?_cons_zero, List.getElem?_cons_succ] at z0 z1 z2 z3; clear hb H4 b3 X3 X4))
  go_loopw [13] (fun i wr => ∃ j : Nat, j ≤ t.size ∧ i = .int .i64 j ∧ wr = w4) (fun i _ => t.size - (intOf i).toNat)
  case atStart => exact ⟨0, Nat.zero_le _, rfl, rfl⟩
  case round =>
    obtain ⟨j, hj, rfl, rfl⟩ := hrel
    by_cases hjt : j < t.size
    · have q0 : (j : Int) < (t.size : Int) := by omega
      have q1 : ¬ ((t[j]'hjt).toNat : Int) < 65 := by have := (o2.out j hjt).1; show ¬ ((t.data[j]'hjt).toNat : Int) < 65; omega
      have q2 : ¬ 90 < ((t[j]'hjt).toNat : Int) := by have := (o2.out j hjt).2; show ¬ 90 < ((t.data[j]'hjt).toNat : Int); omega
      have wk := IntWalk.wrap64_in ((j : Int) + 1) ⟨by omega, by have := hsz.out; omega⟩
      go_wp2_with fail
      exact ⟨⟨j + 1, hjt, by rw [wk]; rfl, by trivial⟩, by rw [wk]; exact meas13 hjt⟩
    · have q0 : ¬ (j : Int) < (t.size : Int) := by omega
      rcases o4 with rfl | o4
      all_goals
        go_wp2_with fail
        go_ret
        exact ⟨rfl, b4.out⟩
set_option maxHeartbeats 4000000 in
set_option maxRecDepth 100000 in
theorem names_yn (s : ByteArray) (f : Int) (i : Nat) (hi : i < 76) (hs : nm i = s) (hf : ¬ (1 ≤ f ∧ f ≤ 76)) (w : World) : Calls Try.prog 5 #[.string s, .int .i64 f] w fun e w' => e = .returned (.bool true) ∧ Below w.heap.size w w' := by
  have HG := hide (begun13 w)
  have H1 := hide (fun w => find_yes i hi w)
  have H2 := hide (fun w => info_nm i hi w)
  rw [hs] at H1 H2
  have ci : ((i : Int) + 1 == 0) = false := by rw [beq_eq_false_iff_ne]; omega
  have ci' : ((i : Int) + 1 != 0) = true := by rw [bne, ci]; rfl
  generalize clsOf ((i : Int) + 1) = c1 at *
  generalize (tab[i]'(by rw [tab_len]; exact hi)).2.1 = m1 at *
  generalize (tab[i]'(by rw [tab_len]; exact hi)).2.2 = x1 at *
  clear hs hi
  have H3 := hide (fun w => info_no f hf w)
  go_enter Try.func5, Try.ntmps5
  by_cases h1 : f < 1
  all_goals
    try have h2 : 76 < f := by omega
    go_wp2_with (first
      | (go_at_call 6; refine HG.out.mono ?_; rintro e w0 ⟨rfl, hb⟩; have b0 := hide hb; clear hb HG)
      | (go_at_call 7; refine (H1.out _).mono ?_; rintro e w1 ⟨rfl, hb⟩; have b1 := hide (next b0.out hb); clear hb H1 b0)
      | (go_at_call 9; refine (H2.out _).mono ?_; rintro e w2 ⟨rfl, hb⟩; have b2 := hide (step (next b1.out hb) (.cells #[.string s, .int .i64 c1, .int .i64 m1, .int .i64 x1] 28)); have X2 := Blk.new w2 #[.string s, .int .i64 c1, .int .i64 m1, .int .i64 x1] 28; have z0 := X2.at' 0; have z1 := X2.at' 1; have z2 := X2.at' 2; have z3 := X2.at' 3; simp only [List.getElem?_toArray, List.getElem?_cons_zero, List.getElem?_cons_succ] at z0 z1 z2 z3; clear hb H2 b1 X2)
      | (go_at_call 9; refine (H3.out _).mono ?_; rintro e w3 ⟨rfl, hb⟩; have b3 := hide (step (next b2.out hb) (.cells #[.string no, .int .i64 0, .int .i64 0, .int .i64 0] 28)); clear z0 z1 z2 z3; have X3 := Blk.new w3 #[.string no, .int .i64 0, .int .i64 0, .int .i64 0] 28; have z0 := X3.at' 0; have z1 := X3.at' 1; have z2 := X3.at' 2; have z3 := X3.at' 3; simp only [List.getElem?_toArray, List.getElem?_cons_zero, List.getElem?_cons_succ] at z0 z1 z2 z3; replace X3 := hide X3; clear hb H3 b2)
      | (refine wpList_store_new rfl 28 _ _ rfl _ #[.string s, .int .i64 c1, .int .i64 m1, .int .i64 x1] _ rfl rfl (by rfl) (fn_info _ _ _ _) rfl (by rfl) ?_))
    go_ret
    exact ⟨rfl, b3.out⟩
set_option maxHeartbeats 4000000 in
set_option maxRecDepth 100000 in
theorem names_ny (s : ByteArray) (f : Int) (hs : s.size ≤ maxLen) (hn : ∀ i, i < 76 → nm i ≠ s) (k : Nat) (hk : k < 76) (hf : f = (k : Int) + 1) (w : World) : Calls Try.prog 5 #[.string s, .int .i64 f] w fun e w' => e = .returned (.bool true) ∧ Below w.heap.size w w' := by
  have HG := hide (begun13 w)
  have H1 := hide (fun w => find_no s hs hn w)
  have H2 := hide info_zero
  clear hs hn
  subst hf
  have H3 := hide (fun w => info_nm k hk w)
  have H4 := hide (fun w => find_yes k hk w)
  obtain ⟨o1, o2, o3, o4⟩ := row_ok k hk
  obtain ⟨o5, o6⟩ := cls_ok k hk
  have o1' : 0 < ((nm k).size : Int) := by omega
  have hsz : Hid ((nm k).size ≤ 10) := hide (nm_small k hk)
  generalize clsOf ((k : Int) + 1) = c2 at *
  generalize (tab[k]'(by rw [tab_len]; exact hk)).2.1 = m2 at *
  generalize (tab[k]'(by rw [tab_len]; exact hk)).2.2 = x2 at *
  generalize nm k = t at *
  replace o2 := hide o2
  clear hk
  go_enter Try.func5, Try.ntmps5
  go_wp2_with (first
    | (go_at_call 6; refine HG.out.mono ?_; rintro e w0 ⟨rfl, hb⟩; have b0 := hide hb; clear hb HG)
    | (go_at_call 7; refine (H1.out _).mono ?_; rintro e w1 ⟨rfl, hb⟩; have b1 := hide (next b0.out hb); clear hb H1 b0)
    | (go_at_call 9; refine (H2.out _).mono ?_; rintro e w2 ⟨rfl, hb⟩; have b2 := hide (step (next b1.out hb) (.cells #[.string no, .int .i64 0, .int .i64 0, .int .i64 0] 28)); have X2 := Blk.new w2 #[.string no, .int .i64 0, .int .i64 0, .int .i64 0] 28; have z0 := X2.at' 0; have z1 := X2.at' 1; have z2 := X2.at' 2; have z3 := X2.at' 3; simp only [List.getElem?_toArray, List.getElem?_cons_zero, List.getElem?_cons_succ] at z0 z1 z2 z3; clear hb H2 b1 X2)
    | (go_at_call 9; refine (H3.out _).mono ?_; rintro e w3 ⟨rfl, hb⟩; have b3 := hide (step (next b2.out hb) (.cells #[.string t, .int .i64 c2, .int .i64 m2, .int .i64 x2] 28)); clear z0 z1 z2 z3; have X3 := Blk.new w3 #[.string t, .int .i64 c2, .int .i64 m2, .int .i64 x2] 28; have z0 := X3.at' 0; have z1 := X3.at' 1; have z2 := X3.at' 2; have z3 := X3.at' 3; simp only [List.getElem?_toArray, List.getElem?_cons_zero, List.getElem?_cons_succ] at z0 z1 z2 z3; replace X3 := hide X3; clear hb H3 b2)
    | (refine wpList_store_new rfl 28 _ _ rfl _ #[.string no, .int .i64 0, .int .i64 0, .int .i64 0] _ rfl rfl (by rfl) (fn_info _ _ _ _) rfl (by rfl) ?_)
    | (refine wpList_store_new rfl 28 _ _ rfl _ #[.string t, .int .i64 c2, .int .i64 m2, .int .i64 x2] _ rfl rfl (by rfl) (fn_info _ _ _ _) rfl (by rfl) ?_)
    | (go_at_call 7; refine (H4.out _).mono ?_; rintro e w4 ⟨rfl, hb⟩; have b4 := hide (next b3.out hb); have X4 := X3.out.keep hb; clear z0 z1 z2 z3; have z0 := X4.at' 0; have z1 := X4.at' 1; have z2 := X4.at' 2; have z3 := X4.at' 3; simp only [List.getElem?_toArray, List.getElem?_cons_zero, List.getElem?_cons_succ] at z0 z1 z2 z3; clear hb H4 b3 X3 X4))
  go_loopw [13] (fun i wr => ∃ j : Nat, j ≤ t.size ∧ i = .int .i64 j ∧ wr = w4) (fun i _ => t.size - (intOf i).toNat)
  case atStart => exact ⟨0, Nat.zero_le _, rfl, rfl⟩
  case round =>
    obtain ⟨j, hj, rfl, rfl⟩ := hrel
    by_cases hjt : j < t.size
    · have q0 : (j : Int) < (t.size : Int) := by omega
      have q1 : ¬ ((t[j]'hjt).toNat : Int) < 65 := by have := (o2.out j hjt).1; show ¬ ((t.data[j]'hjt).toNat : Int) < 65; omega
      have q2 : ¬ 90 < ((t[j]'hjt).toNat : Int) := by have := (o2.out j hjt).2; show ¬ 90 < ((t.data[j]'hjt).toNat : Int); omega
      have wk := IntWalk.wrap64_in ((j : Int) + 1) ⟨by omega, by have := hsz.out; omega⟩
      go_wp2_with fail
      exact ⟨⟨j + 1, hjt, by rw [wk]; rfl, by trivial⟩, by rw [wk]; exact meas13 hjt⟩
    · have q0 : ¬ (j : Int) < (t.size : Int) := by omega
      rcases o4 with rfl | o4
      all_goals
        go_wp2_with fail
        go_ret
        exact ⟨rfl, b4.out⟩
set_option maxHeartbeats 4000000 in
set_option maxRecDepth 100000 in
theorem names_nn (s : ByteArray) (f : Int) (hs : s.size ≤ maxLen) (hn : ∀ i, i < 76 → nm i ≠ s) (hf : ¬ (1 ≤ f ∧ f ≤ 76)) (w : World) : Calls Try.prog 5 #[.string s, .int .i64 f] w fun e w' => e = .returned (.bool true) ∧ Below w.heap.size w w' := by
  have HG := hide (begun13 w)
  have H1 := hide (fun w => find_no s hs hn w)
  have H2 := hide info_zero
  clear hs hn
  have H3 := hide (fun w => info_no f hf w)
  go_enter Try.func5, Try.ntmps5
  by_cases h1 : f < 1
  all_goals
    try have h2 : 76 < f := by omega
    go_wp2_with (first
      | (go_at_call 6; refine HG.out.mono ?_; rintro e w0 ⟨rfl, hb⟩; have b0 := hide hb; clear hb HG)
      | (go_at_call 7; refine (H1.out _).mono ?_; rintro e w1 ⟨rfl, hb⟩; have b1 := hide (next b0.out hb); clear hb H1 b0)
      | (go_at_call 9; refine (H2.out _).mono ?_; rintro e w2 ⟨rfl, hb⟩; have b2 := hide (step (next b1.out hb) (.cells #[.string no, .int .i64 0, .int .i64 0, .int .i64 0] 28)); have X2 := Blk.new w2 #[.string no, .int .i64 0, .int .i64 0, .int .i64 0] 28; have z0 := X2.at' 0; have z1 := X2.at' 1; have z2 := X2.at' 2; have z3 := X2.at' 3; simp only [List.getElem?_toArray, List.getElem?_cons_zero, List.getElem?_cons_succ] at z0 z1 z2 z3; clear hb H2 b1 X2)
      | (go_at_call 9; refine (H3.out _).mono ?_; rintro e w3 ⟨rfl, hb⟩; have b3 := hide (step (next b2.out hb) (.cells #[.string no, .int .i64 0, .int .i64 0, .int .i64 0] 28)); clear z0 z1 z2 z3; have X3 := Blk.new w3 #[.string no, .int .i64 0, .int .i64 0, .int .i64 0] 28; have z0 := X3.at' 0; have z1 := X3.at' 1; have z2 := X3.at' 2; have z3 := X3.at' 3; simp only [List.getElem?_toArray, List.getElem?_cons_zero, List.getElem?_cons_succ] at z0 z1 z2 z3; replace X3 := hide X3; clear hb H3 b2)
      | (refine wpList_store_new rfl 28 _ _ rfl _ #[.string no, .int .i64 0, .int .i64 0, .int .i64 0] _ rfl rfl (by rfl) (fn_info _ _ _ _) rfl (by rfl) ?_))
    go_ret
    exact ⟨rfl, b3.out⟩
theorem listNames_walk (s : ByteArray) (hs : s.size ≤ maxLen) (f : Int) (w : World) : Calls Try.prog 5 #[.string s, .int .i64 f] w fun e w' => e = .returned (.bool true) ∧ Below w.heap.size w w' := by
  by_cases h : ∃ i, i < 76 ∧ nm i = s
  · obtain ⟨i, hi, e⟩ := h
    by_cases h2 : 1 ≤ f ∧ f ≤ 76
    · exact names_yy s f i hi e (f - 1).toNat (by omega) (by omega) w
    · exact names_yn s f i hi e h2 w
  · have hn : ∀ i, i < 76 → nm i ≠ s := fun i hi e => h ⟨i, hi, e⟩
    by_cases h2 : 1 ≤ f ∧ f ≤ 76
    · exact names_ny s f hs hn (f - 1).toNat (by omega) (by omega) w
    · exact names_nn s f hs hn h2 w
end Go.Proofs.Ytmoekapoajkaiaa
