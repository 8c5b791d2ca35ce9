/- calc.Un and calc.Bin: what they answer, by what their callees answer. Proved of the Go text. -/
import Derived.Test.YtgnmkhjilecdhaaGreatDoorL14J
import Derived.Test.YtgnmkhjilecdhaaGreatDoorF14J
namespace Go.Proofs.YtgnmkhjilecdhaaGreatDoor
open Go.RowKit Go.Sort
set_option linter.unusedVariables false

theorem fe2_first (w : World) (x y : Va) (h : x.k = 4) : Calls Tryz.prog 26 #[.slice (some ⟨w.heap.size, 0, none⟩) 2 2] (w.alloc (.cells #[.int .i64 x.k, .int .i64 x.i, .string x.t, .int .i64 y.k, .int .i64 y.i, .string y.t] 30)) fun e w' => e = .returned (.tuple #[x.v, .bool true]) ∧ Below (w.alloc (.cells #[.int .i64 x.k, .int .i64 x.i, .string x.t, .int .i64 y.k, .int .i64 y.i, .string y.t] 30)).heap.size (w.alloc (.cells #[.int .i64 x.k, .int .i64 x.i, .string x.t, .int .i64 y.k, .int .i64 y.i, .string y.t] 30)) w' := by
  have := fe_any [x, y] (some ⟨w.heap.size, 0, none⟩) 2 _ (by show 2 ≤ maxLen; unfold maxLen; decide) (vals2 w x y)
  rw [show fe [x, y] = some x by rw [fe, if_pos h]] at this
  exact this
theorem fe2_second (w : World) (x y : Va) (h : x.k ≠ 4) (h' : y.k = 4) : Calls Tryz.prog 26 #[.slice (some ⟨w.heap.size, 0, none⟩) 2 2] (w.alloc (.cells #[.int .i64 x.k, .int .i64 x.i, .string x.t, .int .i64 y.k, .int .i64 y.i, .string y.t] 30)) fun e w' => e = .returned (.tuple #[y.v, .bool true]) ∧ Below (w.alloc (.cells #[.int .i64 x.k, .int .i64 x.i, .string x.t, .int .i64 y.k, .int .i64 y.i, .string y.t] 30)).heap.size (w.alloc (.cells #[.int .i64 x.k, .int .i64 x.i, .string x.t, .int .i64 y.k, .int .i64 y.i, .string y.t] 30)) w' := by
  have := fe_any [x, y] (some ⟨w.heap.size, 0, none⟩) 2 _ (by show 2 ≤ maxLen; unfold maxLen; decide) (vals2 w x y)
  rw [show fe [x, y] = some y by rw [fe, if_neg h, fe, if_pos h']] at this
  exact this
theorem fe2_none (w : World) (x y : Va) (h : x.k ≠ 4) (h' : y.k ≠ 4) : Calls Tryz.prog 26 #[.slice (some ⟨w.heap.size, 0, none⟩) 2 2] (w.alloc (.cells #[.int .i64 x.k, .int .i64 x.i, .string x.t, .int .i64 y.k, .int .i64 y.i, .string y.t] 30)) fun e w' => e = .returned (.tuple #[vV 0 0 no, .bool false]) ∧ Below (w.alloc (.cells #[.int .i64 x.k, .int .i64 x.i, .string x.t, .int .i64 y.k, .int .i64 y.i, .string y.t] 30)).heap.size (w.alloc (.cells #[.int .i64 x.k, .int .i64 x.i, .string x.t, .int .i64 y.k, .int .i64 y.i, .string y.t] 30)) w' := by
  have := fe_any [x, y] (some ⟨w.heap.size, 0, none⟩) 2 _ (by show 2 ≤ maxLen; unfold maxLen; decide) (vals2 w x y)
  rw [show fe [x, y] = none by rw [fe, if_neg h, fe, if_neg h', fe]] at this
  exact this
/-- Texts one behind the other. -/
def catB (xs : List ByteArray) : ByteArray := ⟨(Lib.join (xs.map (·.data.toList)) no.data.toList).toArray⟩
set_option maxHeartbeats 1000000 in
theorem chained_yes (xs : List ByteArray) (bk o c : Nat) (w : World) (hcells : ∀ (j : Nat) x, xs[j]? = some x → w.cell? ⟨bk, o + j, none⟩ = some (.string x)) (hbk : bk < w.heap.size) (hN : xs.length ≤ 140737488355328) (hcap : xs.length ≤ c) (hlen : (Lib.join (xs.map (·.data.toList)) no.data.toList).length ≤ 140737488355328) (s : ByteArray) (hs : catB xs = s) (h : s.size ≤ 32767) :
    Calls Tryz.prog 100 #[.slice (some ⟨bk, o, none⟩) xs.length c] w fun e w' => e = .returned (vV 3 0 s) ∧ Below w.heap.size w w' := by
  have HJ := hide (fun w' (hb : Below w.heap.size w w') => Tryz.strings_Join bk o c xs no w' (fun j x hx => keep1 hb (hcells j x hx)) (Nat.lt_of_lt_of_le hbk hb.size) hN hcap hlen)
  unfold catB at hs
  rw [hs] at HJ
  have HE := ctext_is s
  have q : ¬ (32767 : Int) < (s.size : Int) := by omega
  clear hcells hbk hN hcap hlen hs h
  generalize xs.length = len at *
  go_enter Tryz.func100, Tryz.ntmps100
  try simp only [List.append]
  go_wp2_with fail
  refine (HJ.out _ (step (Below.refl w.heap.size w) _)).mono ?_
  rintro e w1 ⟨rfl, hb1⟩
  have B1 := hide (next (step (Below.refl w.heap.size w) _) hb1)
  have cr := hide ((O3.new w (.int .i64 0) (.int .i64 0) (.string no) 30).keep hb1)
  go_wp2_with fail
  refine (HE.out _).mono ?_
  rintro e w2 ⟨rfl, hb2⟩
  have B2 := hide (next (B1.out) hb2)
  replace cr := hide (cr.out.keep hb2)
  have cru20 := cr.out.1.1
  have cru21 := cr.out.1.2.1
  have cru22 := cr.out.1.2.2
  have cru2f := cr.out.2
  have Bq1 := hide (below_put3 (b := w.heap.size) (B2.out) (by omega) (.int .i64 3) (.int .i64 0) (.string s))
  replace cr := hide (cr.out.put (.int .i64 3) (.int .i64 0) (.string s))
  obtain ⟨wq1, hwq1⟩ : ∃ wq1, put3 (w2) (w.heap.size) (.int .i64 3) (.int .i64 0) (.string s) = wq1 := ⟨_, rfl⟩
  rw [hwq1] at Bq1 cr
  unfold put3 at hwq1
  have cru30 := cr.out.1.1
  have cru31 := cr.out.1.2.1
  have cru32 := cr.out.1.2.2
  go_wp2_with fail
  refine bodyPost_ret (by simp [results, Tryz.results100, go_sem, cru30, cru31, cru32]; try rfl) rfl ?_
  exact ⟨rfl, Bq1.out⟩
set_option maxHeartbeats 1000000 in
theorem chained_no (xs : List ByteArray) (bk o c : Nat) (w : World) (hcells : ∀ (j : Nat) x, xs[j]? = some x → w.cell? ⟨bk, o + j, none⟩ = some (.string x)) (hbk : bk < w.heap.size) (hN : xs.length ≤ 140737488355328) (hcap : xs.length ≤ c) (hlen : (Lib.join (xs.map (·.data.toList)) no.data.toList).length ≤ 140737488355328) (s : ByteArray) (hs : catB xs = s) (h : ¬ s.size ≤ 32767) :
    Calls Tryz.prog 100 #[.slice (some ⟨bk, o, none⟩) xs.length c] w fun e w' => e = .returned (vV 4 4 no) ∧ Below w.heap.size w w' := by
  have HJ := hide (fun w' (hb : Below w.heap.size w w') => Tryz.strings_Join bk o c xs no w' (fun j x hx => keep1 hb (hcells j x hx)) (Nat.lt_of_lt_of_le hbk hb.size) hN hcap hlen)
  unfold catB at hs
  rw [hs] at HJ
  have HE := cfault_is 4
  have q : (32767 : Int) < (s.size : Int) := by omega
  clear hcells hbk hN hcap hlen hs h
  generalize xs.length = len at *
  go_enter Tryz.func100, Tryz.ntmps100
  try simp only [List.append]
  go_wp2_with fail
  refine (HJ.out _ (step (Below.refl w.heap.size w) _)).mono ?_
  rintro e w1 ⟨rfl, hb1⟩
  have B1 := hide (next (step (Below.refl w.heap.size w) _) hb1)
  have cr := hide ((O3.new w (.int .i64 0) (.int .i64 0) (.string no) 30).keep hb1)
  go_wp2_with fail
  refine (HE.out _).mono ?_
  rintro e w2 ⟨rfl, hb2⟩
  have B2 := hide (next (B1.out) hb2)
  replace cr := hide (cr.out.keep hb2)
  have cru20 := cr.out.1.1
  have cru21 := cr.out.1.2.1
  have cru22 := cr.out.1.2.2
  have cru2f := cr.out.2
  have Bq1 := hide (below_put3 (b := w.heap.size) (B2.out) (by omega) (.int .i64 4) (.int .i64 4) (.string no))
  replace cr := hide (cr.out.put (.int .i64 4) (.int .i64 4) (.string no))
  obtain ⟨wq1, hwq1⟩ : ∃ wq1, put3 (w2) (w.heap.size) (.int .i64 4) (.int .i64 4) (.string no) = wq1 := ⟨_, rfl⟩
  rw [hwq1] at Bq1 cr
  unfold put3 at hwq1
  have cru30 := cr.out.1.1
  have cru31 := cr.out.1.2.1
  have cru32 := cr.out.1.2.2
  go_wp2_with fail
  refine bodyPost_ret (by simp [results, Tryz.results100, go_sem, cru30, cru31, cru32]; try rfl) rfl ?_
  exact ⟨rfl, Bq1.out⟩
/-- A text, or #VALUE! of one that is too long. -/
def chV (s : ByteArray) : Va := if s.size ≤ 32767 then ⟨3, 0, s⟩ else ⟨4, 4, no⟩
theorem chained_any (xs : List ByteArray) (bk o c : Nat) (w : World) (hcells : ∀ (j : Nat) x, xs[j]? = some x → w.cell? ⟨bk, o + j, none⟩ = some (.string x)) (hbk : bk < w.heap.size) (hN : xs.length ≤ 140737488355328) (hcap : xs.length ≤ c) (hlen : (Lib.join (xs.map (·.data.toList)) no.data.toList).length ≤ 140737488355328) :
    Calls Tryz.prog 100 #[.slice (some ⟨bk, o, none⟩) xs.length c] w fun e w' => e = .returned (chV (catB xs)).v ∧ Below w.heap.size w w' := by
  unfold chV
  by_cases h : (catB xs).size ≤ 32767
  · rw [if_pos h]; exact chained_yes xs bk o c w hcells hbk hN hcap hlen _ rfl h
  · rw [if_neg h]; exact chained_no xs bk o c w hcells hbk hN hcap hlen _ rfl h
def cat2 (s t : ByteArray) : ByteArray := ⟨(s.data.toList ++ t.data.toList).toArray⟩
theorem cat2_size (s t : ByteArray) : (cat2 s t).size = s.size + t.size := by
  show (s.data.toList ++ t.data.toList).toArray.size = _
  rw [List.size_toArray, List.length_append, Array.length_toList, Array.length_toList]
  rfl
theorem join2 (s t : ByteArray) : Lib.join ([s, t].map (·.data.toList)) no.data.toList = s.data.toList ++ t.data.toList := by
  show Lib.join [s.data.toList, t.data.toList] [] = _
  show s.data.toList ++ ([] ++ (t.data.toList ++ [])) = _
  rw [List.append_nil, List.nil_append]
theorem catB2 (s t : ByteArray) : catB [s, t] = cat2 s t := by
  unfold catB cat2
  congr 2
  exact join2 s t
theorem chained2 (w : World) (s t : ByteArray) (h : s.size + t.size ≤ 140737488355328) : Calls Tryz.prog 100 #[.slice (some ⟨w.heap.size, 0, none⟩) 2 2] (w.alloc (.cells #[.string s, .string t] 9)) fun e w' => e = .returned (vV (chV (cat2 s t)).k (chV (cat2 s t)).i (chV (cat2 s t)).t) ∧ Below (w.alloc (.cells #[.string s, .string t] 9)).heap.size (w.alloc (.cells #[.string s, .string t] 9)) w' := by
  have := chained_any [s, t] w.heap.size 0 2 (w.alloc (.cells #[.string s, .string t] 9)) (fun j x hx => by
    match j, hx with
    | 0, hx => obtain rfl : s = x := by simpa using hx
               go_simp
    | 1, hx => obtain rfl : t = x := by simpa using hx
               go_simp) (by simp) (by show 2 ≤ 140737488355328; decide) (by show 2 ≤ 2; decide) (by rw [join2, List.length_append, Array.length_toList, Array.length_toList]; exact h)
  rw [catB2] at this
  exact this
set_option maxHeartbeats 2000000 in
theorem sum_bad1 (op a z : Int) (x0 x1 : Int) (x2 : ByteArray) (y0 y1 : Int) (y2 : ByteArray) (hz : (z != 0) = true) (HN : CallIs 19 #[vV x0 x1 x2] (iiV a z)) : CallIs 27 #[.int .i64 op, vV x0 x1 x2, vV y0 y1 y2] (vV 4 z no) := by
  intro w
  go_enter Tryz.func27, Tryz.ntmps27
  try simp only [List.append]
  have HE := cfault_is z
  go_wp2_with fail
  refine (HN.out _).mono ?_
  rintro e w1 ⟨rfl, hb1⟩
  have B1 := hide (next (step (step (step (Below.refl w.heap.size w) _) _) _) hb1)
  have cx := hide ((((O3.new w (.int .i64 x0) (.int .i64 x1) (.string x2) 30).alloc _).alloc _).keep hb1)
  have cy := hide (((O3.new (w.alloc (vO x0 x1 x2)) (.int .i64 y0) (.int .i64 y1) (.string y2) 30).alloc _).keep hb1)
  simp only [World.size_alloc] at cy
  have cr := hide ((O3.new ((w.alloc (vO x0 x1 x2)).alloc (vO y0 y1 y2)) (.int .i64 0) (.int .i64 0) (.string no) 30).keep hb1)
  simp only [World.size_alloc] at cr
  go_wp2_with fail
  refine (HE.out _).mono ?_
  rintro e w2 ⟨rfl, hb2⟩
  have B2 := hide (next (B1.out) hb2)
  replace cx := hide (cx.out.keep hb2)
  replace cy := hide (cy.out.keep hb2)
  replace cr := hide (cr.out.keep hb2)
  have cru20 := cr.out.1.1
  have cru21 := cr.out.1.2.1
  have cru22 := cr.out.1.2.2
  have cru2f := cr.out.2
  have Bq1 := hide (below_put3 (b := w.heap.size + 2) (B2.out) (by omega) (.int .i64 4) (.int .i64 z) (.string no))
  replace cx := hide (O3.other (b := w.heap.size + 2) (u0 := .int .i64 4) (u1 := .int .i64 z) (u2 := .string no) cx.out (by omega))
  replace cy := hide (O3.other (b := w.heap.size + 2) (u0 := .int .i64 4) (u1 := .int .i64 z) (u2 := .string no) cy.out (by omega))
  replace cr := hide (cr.out.put (.int .i64 4) (.int .i64 z) (.string no))
  obtain ⟨wq1, hwq1⟩ : ∃ wq1, put3 (w2) (w.heap.size + 2) (.int .i64 4) (.int .i64 z) (.string no) = wq1 := ⟨_, rfl⟩
  rw [hwq1] at Bq1 cx cy cr
  unfold put3 at hwq1
  have cru30 := cr.out.1.1
  have cru31 := cr.out.1.2.1
  have cru32 := cr.out.1.2.2
  go_wp2_with fail
  refine bodyPost_ret (by simp [results, Tryz.results27, go_sem, cru30, cru31, cru32]; try rfl) rfl ?_
  exact ⟨rfl, Bq1.out⟩
set_option maxHeartbeats 2000000 in
theorem sum_bad2 (op a b z : Int) (x0 x1 : Int) (x2 : ByteArray) (y0 y1 : Int) (y2 : ByteArray) (hz : (z != 0) = true) (HN : CallIs 19 #[vV x0 x1 x2] (iiV a 0)) (HM : CallIs 19 #[vV y0 y1 y2] (iiV b z)) : CallIs 27 #[.int .i64 op, vV x0 x1 x2, vV y0 y1 y2] (vV 4 z no) := by
  intro w
  go_enter Tryz.func27, Tryz.ntmps27
  try simp only [List.append]
  have HE := cfault_is z
  go_wp2_with fail
  refine (HN.out _).mono ?_
  rintro e w1 ⟨rfl, hb1⟩
  have B1 := hide (next (step (step (step (Below.refl w.heap.size w) _) _) _) hb1)
  have cx := hide ((((O3.new w (.int .i64 x0) (.int .i64 x1) (.string x2) 30).alloc _).alloc _).keep hb1)
  have cy := hide (((O3.new (w.alloc (vO x0 x1 x2)) (.int .i64 y0) (.int .i64 y1) (.string y2) 30).alloc _).keep hb1)
  simp only [World.size_alloc] at cy
  have cr := hide ((O3.new ((w.alloc (vO x0 x1 x2)).alloc (vO y0 y1 y2)) (.int .i64 0) (.int .i64 0) (.string no) 30).keep hb1)
  simp only [World.size_alloc] at cr
  have cyu10 := cy.out.1.1
  have cyu11 := cy.out.1.2.1
  have cyu12 := cy.out.1.2.2
  go_wp2_with fail
  refine (HM.out _).mono ?_
  rintro e w2 ⟨rfl, hb2⟩
  clear cyu10
  clear cyu11
  clear cyu12
  have B2 := hide (next (B1.out) hb2)
  replace cx := hide (cx.out.keep hb2)
  replace cy := hide (cy.out.keep hb2)
  replace cr := hide (cr.out.keep hb2)
  go_wp2_with fail
  refine (HE.out _).mono ?_
  rintro e w3 ⟨rfl, hb3⟩
  have B3 := hide (next (B2.out) hb3)
  replace cx := hide (cx.out.keep hb3)
  replace cy := hide (cy.out.keep hb3)
  replace cr := hide (cr.out.keep hb3)
  have cru30 := cr.out.1.1
  have cru31 := cr.out.1.2.1
  have cru32 := cr.out.1.2.2
  have cru3f := cr.out.2
  have Bq2 := hide (below_put3 (b := w.heap.size + 2) (B3.out) (by omega) (.int .i64 4) (.int .i64 z) (.string no))
  replace cx := hide (O3.other (b := w.heap.size + 2) (u0 := .int .i64 4) (u1 := .int .i64 z) (u2 := .string no) cx.out (by omega))
  replace cy := hide (O3.other (b := w.heap.size + 2) (u0 := .int .i64 4) (u1 := .int .i64 z) (u2 := .string no) cy.out (by omega))
  replace cr := hide (cr.out.put (.int .i64 4) (.int .i64 z) (.string no))
  obtain ⟨wq2, hwq2⟩ : ∃ wq2, put3 (w3) (w.heap.size + 2) (.int .i64 4) (.int .i64 z) (.string no) = wq2 := ⟨_, rfl⟩
  rw [hwq2] at Bq2 cx cy cr
  unfold put3 at hwq2
  have cru40 := cr.out.1.1
  have cru41 := cr.out.1.2.1
  have cru42 := cr.out.1.2.2
  go_wp2_with fail
  refine bodyPost_ret (by simp [results, Tryz.results27, go_sem, cru40, cru41, cru42]; try rfl) rfl ?_
  exact ⟨rfl, Bq2.out⟩
set_option maxHeartbeats 2000000 in
theorem sum_pow (a b r : Int) (e : Int) (k i : Int) (t : ByteArray) (x0 x1 : Int) (x2 : ByteArray) (y0 y1 : Int) (y2 : ByteArray) (HN : CallIs 19 #[vV x0 x1 x2] (iiV a 0)) (HM : CallIs 19 #[vV y0 y1 y2] (iiV b 0)) (HO : CallIs 39 #[.int .i64 a, .int .i64 b] (.tuple #[.int .i64 r, .int .i64 e])) (HR : CallIs 22 #[.int .i64 r, .int .i64 e] (vV k i t)) : CallIs 27 #[.int .i64 1, vV x0 x1 x2, vV y0 y1 y2] (vV k i t) := by
  intro w
  go_enter Tryz.func27, Tryz.ntmps27
  try simp only [List.append]
  go_wp2_with fail
  refine (HN.out _).mono ?_
  rintro e w1 ⟨rfl, hb1⟩
  have B1 := hide (next (step (step (step (Below.refl w.heap.size w) _) _) _) hb1)
  have cx := hide ((((O3.new w (.int .i64 x0) (.int .i64 x1) (.string x2) 30).alloc _).alloc _).keep hb1)
  have cy := hide (((O3.new (w.alloc (vO x0 x1 x2)) (.int .i64 y0) (.int .i64 y1) (.string y2) 30).alloc _).keep hb1)
  simp only [World.size_alloc] at cy
  have cr := hide ((O3.new ((w.alloc (vO x0 x1 x2)).alloc (vO y0 y1 y2)) (.int .i64 0) (.int .i64 0) (.string no) 30).keep hb1)
  simp only [World.size_alloc] at cr
  have cyu10 := cy.out.1.1
  have cyu11 := cy.out.1.2.1
  have cyu12 := cy.out.1.2.2
  go_wp2_with fail
  refine (HM.out _).mono ?_
  rintro e w2 ⟨rfl, hb2⟩
  clear cyu10
  clear cyu11
  clear cyu12
  have B2 := hide (next (B1.out) hb2)
  replace cx := hide (cx.out.keep hb2)
  replace cy := hide (cy.out.keep hb2)
  replace cr := hide (cr.out.keep hb2)
  go_wp2_with fail
  refine (HO.out _).mono ?_
  rintro e w3 ⟨rfl, hb3⟩
  have B3 := hide (next (B2.out) hb3)
  replace cx := hide (cx.out.keep hb3)
  replace cy := hide (cy.out.keep hb3)
  replace cr := hide (cr.out.keep hb3)
  go_wp2_with fail
  refine (HR.out _).mono ?_
  rintro e w4 ⟨rfl, hb4⟩
  have B4 := hide (next (B3.out) hb4)
  replace cx := hide (cx.out.keep hb4)
  replace cy := hide (cy.out.keep hb4)
  replace cr := hide (cr.out.keep hb4)
  have cru30 := cr.out.1.1
  have cru31 := cr.out.1.2.1
  have cru32 := cr.out.1.2.2
  have cru3f := cr.out.2
  have Bq2 := hide (below_put3 (b := w.heap.size + 2) (B4.out) (by omega) (.int .i64 k) (.int .i64 i) (.string t))
  replace cx := hide (O3.other (b := w.heap.size + 2) (u0 := .int .i64 k) (u1 := .int .i64 i) (u2 := .string t) cx.out (by omega))
  replace cy := hide (O3.other (b := w.heap.size + 2) (u0 := .int .i64 k) (u1 := .int .i64 i) (u2 := .string t) cy.out (by omega))
  replace cr := hide (cr.out.put (.int .i64 k) (.int .i64 i) (.string t))
  obtain ⟨wq2, hwq2⟩ : ∃ wq2, put3 (w4) (w.heap.size + 2) (.int .i64 k) (.int .i64 i) (.string t) = wq2 := ⟨_, rfl⟩
  rw [hwq2] at Bq2 cx cy cr
  unfold put3 at hwq2
  have cru40 := cr.out.1.1
  have cru41 := cr.out.1.2.1
  have cru42 := cr.out.1.2.2
  go_wp2_with fail
  refine bodyPost_ret (by simp [results, Tryz.results27, go_sem, cru40, cru41, cru42]; try rfl) rfl ?_
  exact ⟨rfl, Bq2.out⟩
set_option maxHeartbeats 2000000 in
theorem sum_mul (a b r : Int) (e : Bool) (k i : Int) (t : ByteArray) (x0 x1 : Int) (x2 : ByteArray) (y0 y1 : Int) (y2 : ByteArray) (HN : CallIs 19 #[vV x0 x1 x2] (iiV a 0)) (HM : CallIs 19 #[vV y0 y1 y2] (iiV b 0)) (HO : CallIs 97 #[.int .i64 a, .int .i64 b] (.tuple #[.int .i64 r, .bool e])) (HR : CallIs 20 #[.int .i64 r, .bool e] (vV k i t)) : CallIs 27 #[.int .i64 2, vV x0 x1 x2, vV y0 y1 y2] (vV k i t) := by
  intro w
  go_enter Tryz.func27, Tryz.ntmps27
  try simp only [List.append]
  go_wp2_with fail
  refine (HN.out _).mono ?_
  rintro e w1 ⟨rfl, hb1⟩
  have B1 := hide (next (step (step (step (Below.refl w.heap.size w) _) _) _) hb1)
  have cx := hide ((((O3.new w (.int .i64 x0) (.int .i64 x1) (.string x2) 30).alloc _).alloc _).keep hb1)
  have cy := hide (((O3.new (w.alloc (vO x0 x1 x2)) (.int .i64 y0) (.int .i64 y1) (.string y2) 30).alloc _).keep hb1)
  simp only [World.size_alloc] at cy
  have cr := hide ((O3.new ((w.alloc (vO x0 x1 x2)).alloc (vO y0 y1 y2)) (.int .i64 0) (.int .i64 0) (.string no) 30).keep hb1)
  simp only [World.size_alloc] at cr
  have cyu10 := cy.out.1.1
  have cyu11 := cy.out.1.2.1
  have cyu12 := cy.out.1.2.2
  go_wp2_with fail
  refine (HM.out _).mono ?_
  rintro e w2 ⟨rfl, hb2⟩
  clear cyu10
  clear cyu11
  clear cyu12
  have B2 := hide (next (B1.out) hb2)
  replace cx := hide (cx.out.keep hb2)
  replace cy := hide (cy.out.keep hb2)
  replace cr := hide (cr.out.keep hb2)
  go_wp2_with fail
  refine (HO.out _).mono ?_
  rintro e w3 ⟨rfl, hb3⟩
  have B3 := hide (next (B2.out) hb3)
  replace cx := hide (cx.out.keep hb3)
  replace cy := hide (cy.out.keep hb3)
  replace cr := hide (cr.out.keep hb3)
  go_wp2_with fail
  refine (HR.out _).mono ?_
  rintro e w4 ⟨rfl, hb4⟩
  have B4 := hide (next (B3.out) hb4)
  replace cx := hide (cx.out.keep hb4)
  replace cy := hide (cy.out.keep hb4)
  replace cr := hide (cr.out.keep hb4)
  have cru30 := cr.out.1.1
  have cru31 := cr.out.1.2.1
  have cru32 := cr.out.1.2.2
  have cru3f := cr.out.2
  have Bq2 := hide (below_put3 (b := w.heap.size + 2) (B4.out) (by omega) (.int .i64 k) (.int .i64 i) (.string t))
  replace cx := hide (O3.other (b := w.heap.size + 2) (u0 := .int .i64 k) (u1 := .int .i64 i) (u2 := .string t) cx.out (by omega))
  replace cy := hide (O3.other (b := w.heap.size + 2) (u0 := .int .i64 k) (u1 := .int .i64 i) (u2 := .string t) cy.out (by omega))
  replace cr := hide (cr.out.put (.int .i64 k) (.int .i64 i) (.string t))
  obtain ⟨wq2, hwq2⟩ : ∃ wq2, put3 (w4) (w.heap.size + 2) (.int .i64 k) (.int .i64 i) (.string t) = wq2 := ⟨_, rfl⟩
  rw [hwq2] at Bq2 cx cy cr
  unfold put3 at hwq2
  have cru40 := cr.out.1.1
  have cru41 := cr.out.1.2.1
  have cru42 := cr.out.1.2.2
  go_wp2_with fail
  refine bodyPost_ret (by simp [results, Tryz.results27, go_sem, cru40, cru41, cru42]; try rfl) rfl ?_
  exact ⟨rfl, Bq2.out⟩
set_option maxHeartbeats 2000000 in
theorem sum_div (a b r : Int) (e : Int) (k i : Int) (t : ByteArray) (x0 x1 : Int) (x2 : ByteArray) (y0 y1 : Int) (y2 : ByteArray) (HN : CallIs 19 #[vV x0 x1 x2] (iiV a 0)) (HM : CallIs 19 #[vV y0 y1 y2] (iiV b 0)) (HO : CallIs 23 #[.int .i64 a, .int .i64 b] (.tuple #[.int .i64 r, .int .i64 e])) (HR : CallIs 22 #[.int .i64 r, .int .i64 e] (vV k i t)) : CallIs 27 #[.int .i64 3, vV x0 x1 x2, vV y0 y1 y2] (vV k i t) := by
  intro w
  go_enter Tryz.func27, Tryz.ntmps27
  try simp only [List.append]
  go_wp2_with fail
  refine (HN.out _).mono ?_
  rintro e w1 ⟨rfl, hb1⟩
  have B1 := hide (next (step (step (step (Below.refl w.heap.size w) _) _) _) hb1)
  have cx := hide ((((O3.new w (.int .i64 x0) (.int .i64 x1) (.string x2) 30).alloc _).alloc _).keep hb1)
  have cy := hide (((O3.new (w.alloc (vO x0 x1 x2)) (.int .i64 y0) (.int .i64 y1) (.string y2) 30).alloc _).keep hb1)
  simp only [World.size_alloc] at cy
  have cr := hide ((O3.new ((w.alloc (vO x0 x1 x2)).alloc (vO y0 y1 y2)) (.int .i64 0) (.int .i64 0) (.string no) 30).keep hb1)
  simp only [World.size_alloc] at cr
  have cyu10 := cy.out.1.1
  have cyu11 := cy.out.1.2.1
  have cyu12 := cy.out.1.2.2
  go_wp2_with fail
  refine (HM.out _).mono ?_
  rintro e w2 ⟨rfl, hb2⟩
  clear cyu10
  clear cyu11
  clear cyu12
  have B2 := hide (next (B1.out) hb2)
  replace cx := hide (cx.out.keep hb2)
  replace cy := hide (cy.out.keep hb2)
  replace cr := hide (cr.out.keep hb2)
  go_wp2_with fail
  refine (HO.out _).mono ?_
  rintro e w3 ⟨rfl, hb3⟩
  have B3 := hide (next (B2.out) hb3)
  replace cx := hide (cx.out.keep hb3)
  replace cy := hide (cy.out.keep hb3)
  replace cr := hide (cr.out.keep hb3)
  go_wp2_with fail
  refine (HR.out _).mono ?_
  rintro e w4 ⟨rfl, hb4⟩
  have B4 := hide (next (B3.out) hb4)
  replace cx := hide (cx.out.keep hb4)
  replace cy := hide (cy.out.keep hb4)
  replace cr := hide (cr.out.keep hb4)
  have cru30 := cr.out.1.1
  have cru31 := cr.out.1.2.1
  have cru32 := cr.out.1.2.2
  have cru3f := cr.out.2
  have Bq2 := hide (below_put3 (b := w.heap.size + 2) (B4.out) (by omega) (.int .i64 k) (.int .i64 i) (.string t))
  replace cx := hide (O3.other (b := w.heap.size + 2) (u0 := .int .i64 k) (u1 := .int .i64 i) (u2 := .string t) cx.out (by omega))
  replace cy := hide (O3.other (b := w.heap.size + 2) (u0 := .int .i64 k) (u1 := .int .i64 i) (u2 := .string t) cy.out (by omega))
  replace cr := hide (cr.out.put (.int .i64 k) (.int .i64 i) (.string t))
  obtain ⟨wq2, hwq2⟩ : ∃ wq2, put3 (w4) (w.heap.size + 2) (.int .i64 k) (.int .i64 i) (.string t) = wq2 := ⟨_, rfl⟩
  rw [hwq2] at Bq2 cx cy cr
  unfold put3 at hwq2
  have cru40 := cr.out.1.1
  have cru41 := cr.out.1.2.1
  have cru42 := cr.out.1.2.2
  go_wp2_with fail
  refine bodyPost_ret (by simp [results, Tryz.results27, go_sem, cru40, cru41, cru42]; try rfl) rfl ?_
  exact ⟨rfl, Bq2.out⟩
set_option maxHeartbeats 2000000 in
theorem sum_add (a b r : Int) (e : Bool) (k i : Int) (t : ByteArray) (x0 x1 : Int) (x2 : ByteArray) (y0 y1 : Int) (y2 : ByteArray) (HN : CallIs 19 #[vV x0 x1 x2] (iiV a 0)) (HM : CallIs 19 #[vV y0 y1 y2] (iiV b 0)) (HO : CallIs 98 #[.int .i64 a, .int .i64 b] (.tuple #[.int .i64 r, .bool e])) (HR : CallIs 20 #[.int .i64 r, .bool e] (vV k i t)) : CallIs 27 #[.int .i64 4, vV x0 x1 x2, vV y0 y1 y2] (vV k i t) := by
  intro w
  go_enter Tryz.func27, Tryz.ntmps27
  try simp only [List.append]
  go_wp2_with fail
  refine (HN.out _).mono ?_
  rintro e w1 ⟨rfl, hb1⟩
  have B1 := hide (next (step (step (step (Below.refl w.heap.size w) _) _) _) hb1)
  have cx := hide ((((O3.new w (.int .i64 x0) (.int .i64 x1) (.string x2) 30).alloc _).alloc _).keep hb1)
  have cy := hide (((O3.new (w.alloc (vO x0 x1 x2)) (.int .i64 y0) (.int .i64 y1) (.string y2) 30).alloc _).keep hb1)
  simp only [World.size_alloc] at cy
  have cr := hide ((O3.new ((w.alloc (vO x0 x1 x2)).alloc (vO y0 y1 y2)) (.int .i64 0) (.int .i64 0) (.string no) 30).keep hb1)
  simp only [World.size_alloc] at cr
  have cyu10 := cy.out.1.1
  have cyu11 := cy.out.1.2.1
  have cyu12 := cy.out.1.2.2
  go_wp2_with fail
  refine (HM.out _).mono ?_
  rintro e w2 ⟨rfl, hb2⟩
  clear cyu10
  clear cyu11
  clear cyu12
  have B2 := hide (next (B1.out) hb2)
  replace cx := hide (cx.out.keep hb2)
  replace cy := hide (cy.out.keep hb2)
  replace cr := hide (cr.out.keep hb2)
  go_wp2_with fail
  refine (HO.out _).mono ?_
  rintro e w3 ⟨rfl, hb3⟩
  have B3 := hide (next (B2.out) hb3)
  replace cx := hide (cx.out.keep hb3)
  replace cy := hide (cy.out.keep hb3)
  replace cr := hide (cr.out.keep hb3)
  go_wp2_with fail
  refine (HR.out _).mono ?_
  rintro e w4 ⟨rfl, hb4⟩
  have B4 := hide (next (B3.out) hb4)
  replace cx := hide (cx.out.keep hb4)
  replace cy := hide (cy.out.keep hb4)
  replace cr := hide (cr.out.keep hb4)
  have cru30 := cr.out.1.1
  have cru31 := cr.out.1.2.1
  have cru32 := cr.out.1.2.2
  have cru3f := cr.out.2
  have Bq2 := hide (below_put3 (b := w.heap.size + 2) (B4.out) (by omega) (.int .i64 k) (.int .i64 i) (.string t))
  replace cx := hide (O3.other (b := w.heap.size + 2) (u0 := .int .i64 k) (u1 := .int .i64 i) (u2 := .string t) cx.out (by omega))
  replace cy := hide (O3.other (b := w.heap.size + 2) (u0 := .int .i64 k) (u1 := .int .i64 i) (u2 := .string t) cy.out (by omega))
  replace cr := hide (cr.out.put (.int .i64 k) (.int .i64 i) (.string t))
  obtain ⟨wq2, hwq2⟩ : ∃ wq2, put3 (w4) (w.heap.size + 2) (.int .i64 k) (.int .i64 i) (.string t) = wq2 := ⟨_, rfl⟩
  rw [hwq2] at Bq2 cx cy cr
  unfold put3 at hwq2
  have cru40 := cr.out.1.1
  have cru41 := cr.out.1.2.1
  have cru42 := cr.out.1.2.2
  go_wp2_with fail
  refine bodyPost_ret (by simp [results, Tryz.results27, go_sem, cru40, cru41, cru42]; try rfl) rfl ?_
  exact ⟨rfl, Bq2.out⟩
set_option maxHeartbeats 2000000 in
theorem sum_sub (a b r : Int) (e : Bool) (k i : Int) (t : ByteArray) (x0 x1 : Int) (x2 : ByteArray) (y0 y1 : Int) (y2 : ByteArray) (HN : CallIs 19 #[vV x0 x1 x2] (iiV a 0)) (HM : CallIs 19 #[vV y0 y1 y2] (iiV b 0)) (HO : CallIs 21 #[.int .i64 a, .int .i64 b] (.tuple #[.int .i64 r, .bool e])) (HR : CallIs 20 #[.int .i64 r, .bool e] (vV k i t)) : CallIs 27 #[.int .i64 5, vV x0 x1 x2, vV y0 y1 y2] (vV k i t) := by
  intro w
  go_enter Tryz.func27, Tryz.ntmps27
  try simp only [List.append]
  go_wp2_with fail
  refine (HN.out _).mono ?_
  rintro e w1 ⟨rfl, hb1⟩
  have B1 := hide (next (step (step (step (Below.refl w.heap.size w) _) _) _) hb1)
  have cx := hide ((((O3.new w (.int .i64 x0) (.int .i64 x1) (.string x2) 30).alloc _).alloc _).keep hb1)
  have cy := hide (((O3.new (w.alloc (vO x0 x1 x2)) (.int .i64 y0) (.int .i64 y1) (.string y2) 30).alloc _).keep hb1)
  simp only [World.size_alloc] at cy
  have cr := hide ((O3.new ((w.alloc (vO x0 x1 x2)).alloc (vO y0 y1 y2)) (.int .i64 0) (.int .i64 0) (.string no) 30).keep hb1)
  simp only [World.size_alloc] at cr
  have cyu10 := cy.out.1.1
  have cyu11 := cy.out.1.2.1
  have cyu12 := cy.out.1.2.2
  go_wp2_with fail
  refine (HM.out _).mono ?_
  rintro e w2 ⟨rfl, hb2⟩
  clear cyu10
  clear cyu11
  clear cyu12
  have B2 := hide (next (B1.out) hb2)
  replace cx := hide (cx.out.keep hb2)
  replace cy := hide (cy.out.keep hb2)
  replace cr := hide (cr.out.keep hb2)
  go_wp2_with fail
  refine (HO.out _).mono ?_
  rintro e w3 ⟨rfl, hb3⟩
  have B3 := hide (next (B2.out) hb3)
  replace cx := hide (cx.out.keep hb3)
  replace cy := hide (cy.out.keep hb3)
  replace cr := hide (cr.out.keep hb3)
  go_wp2_with fail
  refine (HR.out _).mono ?_
  rintro e w4 ⟨rfl, hb4⟩
  have B4 := hide (next (B3.out) hb4)
  replace cx := hide (cx.out.keep hb4)
  replace cy := hide (cy.out.keep hb4)
  replace cr := hide (cr.out.keep hb4)
  have cru30 := cr.out.1.1
  have cru31 := cr.out.1.2.1
  have cru32 := cr.out.1.2.2
  have cru3f := cr.out.2
  have Bq2 := hide (below_put3 (b := w.heap.size + 2) (B4.out) (by omega) (.int .i64 k) (.int .i64 i) (.string t))
  replace cx := hide (O3.other (b := w.heap.size + 2) (u0 := .int .i64 k) (u1 := .int .i64 i) (u2 := .string t) cx.out (by omega))
  replace cy := hide (O3.other (b := w.heap.size + 2) (u0 := .int .i64 k) (u1 := .int .i64 i) (u2 := .string t) cy.out (by omega))
  replace cr := hide (cr.out.put (.int .i64 k) (.int .i64 i) (.string t))
  obtain ⟨wq2, hwq2⟩ : ∃ wq2, put3 (w4) (w.heap.size + 2) (.int .i64 k) (.int .i64 i) (.string t) = wq2 := ⟨_, rfl⟩
  rw [hwq2] at Bq2 cx cy cr
  unfold put3 at hwq2
  have cru40 := cr.out.1.1
  have cru41 := cr.out.1.2.1
  have cru42 := cr.out.1.2.2
  go_wp2_with fail
  refine bodyPost_ret (by simp [results, Tryz.results27, go_sem, cru40, cru41, cru42]; try rfl) rfl ?_
  exact ⟨rfl, Bq2.out⟩
set_option maxHeartbeats 2000000 in
theorem joined_is (x0 x1 : Int) (x2 : ByteArray) (y0 y1 : Int) (y2 : ByteArray) (s t : ByteArray) (e f : Int) (hl : s.size + t.size ≤ 140737488355328) (HX : CallT 99 #[vV x0 x1 x2] (siV s e)) (HY : CallT 99 #[vV y0 y1 y2] (siV t f)) : CallT 28 #[vV x0 x1 x2, vV y0 y1 y2] (vV (chV (cat2 s t)).k (chV (cat2 s t)).i (chV (cat2 s t)).t) := by
  intro w ht
  have HT := hide ht
  clear ht
  go_enter Tryz.func28, Tryz.ntmps28
  try simp only [List.append]
  go_wp2_with fail
  refine (HX.out _ (tab_below HT.out (step (step (step (Below.refl w.heap.size w) _) _) _))).mono ?_
  rintro e w1 ⟨rfl, hb1⟩
  have B1 := hide (next (step (step (step (Below.refl w.heap.size w) _) _) _) hb1)
  have cx := hide ((((O3.new w (.int .i64 x0) (.int .i64 x1) (.string x2) 30).alloc _).alloc _).keep hb1)
  have cy := hide (((O3.new (w.alloc (vO x0 x1 x2)) (.int .i64 y0) (.int .i64 y1) (.string y2) 30).alloc _).keep hb1)
  simp only [World.size_alloc] at cy
  have cr := hide ((O3.new ((w.alloc (vO x0 x1 x2)).alloc (vO y0 y1 y2)) (.int .i64 0) (.int .i64 0) (.string no) 30).keep hb1)
  simp only [World.size_alloc] at cr
  have cyu10 := cy.out.1.1
  have cyu11 := cy.out.1.2.1
  have cyu12 := cy.out.1.2.2
  go_wp2_with fail
  refine (HY.out _ (tab_below HT.out (B1.out))).mono ?_
  rintro e w2 ⟨rfl, hb2⟩
  clear cyu10
  clear cyu11
  clear cyu12
  have B2 := hide (next (B1.out) hb2)
  replace cx := hide (cx.out.keep hb2)
  replace cy := hide (cy.out.keep hb2)
  replace cr := hide (cr.out.keep hb2)
  go_wp2_with fail
  refine (chained2 _ s t hl).mono ?_
  rintro e w3 ⟨rfl, hb3⟩
  have B3 := hide (next (step (B2.out) _) hb3)
  replace cx := hide ((cx.out.alloc _).keep hb3)
  replace cy := hide ((cy.out.alloc _).keep hb3)
  replace cr := hide ((cr.out.alloc _).keep hb3)
  have cru30 := cr.out.1.1
  have cru31 := cr.out.1.2.1
  have cru32 := cr.out.1.2.2
  have cru3f := cr.out.2
  have Bq2 := hide (below_put3 (b := w.heap.size + 2) (B3.out) (by omega) (.int .i64 (chV (cat2 s t)).k) (.int .i64 (chV (cat2 s t)).i) (.string (chV (cat2 s t)).t))
  replace cx := hide (O3.other (b := w.heap.size + 2) (u0 := .int .i64 (chV (cat2 s t)).k) (u1 := .int .i64 (chV (cat2 s t)).i) (u2 := .string (chV (cat2 s t)).t) cx.out (by omega))
  replace cy := hide (O3.other (b := w.heap.size + 2) (u0 := .int .i64 (chV (cat2 s t)).k) (u1 := .int .i64 (chV (cat2 s t)).i) (u2 := .string (chV (cat2 s t)).t) cy.out (by omega))
  replace cr := hide (cr.out.put (.int .i64 (chV (cat2 s t)).k) (.int .i64 (chV (cat2 s t)).i) (.string (chV (cat2 s t)).t))
  obtain ⟨wq2, hwq2⟩ : ∃ wq2, put3 (w3) (w.heap.size + 2) (.int .i64 (chV (cat2 s t)).k) (.int .i64 (chV (cat2 s t)).i) (.string (chV (cat2 s t)).t) = wq2 := ⟨_, rfl⟩
  rw [hwq2] at Bq2 cx cy cr
  unfold put3 at hwq2
  have cru40 := cr.out.1.1
  have cru41 := cr.out.1.2.1
  have cru42 := cr.out.1.2.2
  go_wp2_with fail
  refine bodyPost_ret (by simp [results, Tryz.results28, go_sem, cru40, cru41, cru42]; try rfl) rfl ?_
  exact ⟨rfl, Bq2.out⟩
set_option maxHeartbeats 1000000 in
theorem un_lo (op : Int) (k i : Int) (t : ByteArray) (h : op < 1) : CallIs 11 #[.int .i64 op, vV k i t] (vV 4 4 no) := by
  intro w
  go_enter Tryz.func11, Tryz.ntmps11
  try simp only [List.append]
  have HE := cfault_is 4
  go_wp2_with fail
  refine (HE.out _).mono ?_
  rintro e w1 ⟨rfl, hb1⟩
  have B1 := hide (next (step (step (Below.refl w.heap.size w) _) _) hb1)
  have cv := hide (((O3.new w (.int .i64 k) (.int .i64 i) (.string t) 30).alloc _).keep hb1)
  have cr := hide ((O3.new (w.alloc (vO k i t)) (.int .i64 0) (.int .i64 0) (.string no) 30).keep hb1)
  simp only [World.size_alloc] at cr
  have cru20 := cr.out.1.1
  have cru21 := cr.out.1.2.1
  have cru22 := cr.out.1.2.2
  have cru2f := cr.out.2
  have Bq1 := hide (below_put3 (b := w.heap.size + 1) (B1.out) (by omega) (.int .i64 4) (.int .i64 4) (.string no))
  replace cv := hide (O3.other (b := w.heap.size + 1) (u0 := .int .i64 4) (u1 := .int .i64 4) (u2 := .string no) cv.out (by omega))
  replace cr := hide (cr.out.put (.int .i64 4) (.int .i64 4) (.string no))
  obtain ⟨wq1, hwq1⟩ : ∃ wq1, put3 (w1) (w.heap.size + 1) (.int .i64 4) (.int .i64 4) (.string no) = wq1 := ⟨_, rfl⟩
  rw [hwq1] at Bq1 cv cr
  unfold put3 at hwq1
  have cru30 := cr.out.1.1
  have cru31 := cr.out.1.2.1
  have cru32 := cr.out.1.2.2
  go_wp2_with fail
  refine bodyPost_ret (by simp [results, Tryz.results11, go_sem, cru30, cru31, cru32]; try rfl) rfl ?_
  exact ⟨rfl, Bq1.out⟩
set_option maxHeartbeats 1000000 in
theorem un_hi (op : Int) (k i : Int) (t : ByteArray) (h : 3 < op) : CallIs 11 #[.int .i64 op, vV k i t] (vV 4 4 no) := by
  intro w
  have q1 : ¬ op < 1 := by omega
  go_enter Tryz.func11, Tryz.ntmps11
  try simp only [List.append]
  have HE := cfault_is 4
  go_wp2_with fail
  refine (HE.out _).mono ?_
  rintro e w1 ⟨rfl, hb1⟩
  have B1 := hide (next (step (step (Below.refl w.heap.size w) _) _) hb1)
  have cv := hide (((O3.new w (.int .i64 k) (.int .i64 i) (.string t) 30).alloc _).keep hb1)
  have cr := hide ((O3.new (w.alloc (vO k i t)) (.int .i64 0) (.int .i64 0) (.string no) 30).keep hb1)
  simp only [World.size_alloc] at cr
  have cru20 := cr.out.1.1
  have cru21 := cr.out.1.2.1
  have cru22 := cr.out.1.2.2
  have cru2f := cr.out.2
  have Bq1 := hide (below_put3 (b := w.heap.size + 1) (B1.out) (by omega) (.int .i64 4) (.int .i64 4) (.string no))
  replace cv := hide (O3.other (b := w.heap.size + 1) (u0 := .int .i64 4) (u1 := .int .i64 4) (u2 := .string no) cv.out (by omega))
  replace cr := hide (cr.out.put (.int .i64 4) (.int .i64 4) (.string no))
  obtain ⟨wq1, hwq1⟩ : ∃ wq1, put3 (w1) (w.heap.size + 1) (.int .i64 4) (.int .i64 4) (.string no) = wq1 := ⟨_, rfl⟩
  rw [hwq1] at Bq1 cv cr
  unfold put3 at hwq1
  have cru30 := cr.out.1.1
  have cru31 := cr.out.1.2.1
  have cru32 := cr.out.1.2.2
  go_wp2_with fail
  refine bodyPost_ret (by simp [results, Tryz.results11, go_sem, cru30, cru31, cru32]; try rfl) rfl ?_
  exact ⟨rfl, Bq1.out⟩
set_option maxHeartbeats 1000000 in
theorem un_err1 (k i : Int) (t : ByteArray) (n z : Int) (hz : (z != 0) = true) (HN : CallIs 19 #[vV k i t] (iiV n z)) : CallIs 11 #[.int .i64 1, vV k i t] (vV 4 z no) := by
  intro w
  go_enter Tryz.func11, Tryz.ntmps11
  try simp only [List.append]
  have HE := cfault_is z
  go_wp2_with fail
  refine (HN.out _).mono ?_
  rintro e w1 ⟨rfl, hb1⟩
  have B1 := hide (next (step (step (Below.refl w.heap.size w) _) _) hb1)
  have cv := hide (((O3.new w (.int .i64 k) (.int .i64 i) (.string t) 30).alloc _).keep hb1)
  have cr := hide ((O3.new (w.alloc (vO k i t)) (.int .i64 0) (.int .i64 0) (.string no) 30).keep hb1)
  simp only [World.size_alloc] at cr
  go_wp2_with fail
  refine (HE.out _).mono ?_
  rintro e w2 ⟨rfl, hb2⟩
  have B2 := hide (next (B1.out) hb2)
  replace cv := hide (cv.out.keep hb2)
  replace cr := hide (cr.out.keep hb2)
  have cru20 := cr.out.1.1
  have cru21 := cr.out.1.2.1
  have cru22 := cr.out.1.2.2
  have cru2f := cr.out.2
  have Bq1 := hide (below_put3 (b := w.heap.size + 1) (B2.out) (by omega) (.int .i64 4) (.int .i64 z) (.string no))
  replace cv := hide (O3.other (b := w.heap.size + 1) (u0 := .int .i64 4) (u1 := .int .i64 z) (u2 := .string no) cv.out (by omega))
  replace cr := hide (cr.out.put (.int .i64 4) (.int .i64 z) (.string no))
  obtain ⟨wq1, hwq1⟩ : ∃ wq1, put3 (w2) (w.heap.size + 1) (.int .i64 4) (.int .i64 z) (.string no) = wq1 := ⟨_, rfl⟩
  rw [hwq1] at Bq1 cv cr
  unfold put3 at hwq1
  have cru30 := cr.out.1.1
  have cru31 := cr.out.1.2.1
  have cru32 := cr.out.1.2.2
  go_wp2_with fail
  refine bodyPost_ret (by simp [results, Tryz.results11, go_sem, cru30, cru31, cru32]; try rfl) rfl ?_
  exact ⟨rfl, Bq1.out⟩
set_option maxHeartbeats 1000000 in
theorem un_err2 (k i : Int) (t : ByteArray) (n z : Int) (hz : (z != 0) = true) (HN : CallIs 19 #[vV k i t] (iiV n z)) : CallIs 11 #[.int .i64 2, vV k i t] (vV 4 z no) := by
  intro w
  go_enter Tryz.func11, Tryz.ntmps11
  try simp only [List.append]
  have HE := cfault_is z
  go_wp2_with fail
  refine (HN.out _).mono ?_
  rintro e w1 ⟨rfl, hb1⟩
  have B1 := hide (next (step (step (Below.refl w.heap.size w) _) _) hb1)
  have cv := hide (((O3.new w (.int .i64 k) (.int .i64 i) (.string t) 30).alloc _).keep hb1)
  have cr := hide ((O3.new (w.alloc (vO k i t)) (.int .i64 0) (.int .i64 0) (.string no) 30).keep hb1)
  simp only [World.size_alloc] at cr
  go_wp2_with fail
  refine (HE.out _).mono ?_
  rintro e w2 ⟨rfl, hb2⟩
  have B2 := hide (next (B1.out) hb2)
  replace cv := hide (cv.out.keep hb2)
  replace cr := hide (cr.out.keep hb2)
  have cru20 := cr.out.1.1
  have cru21 := cr.out.1.2.1
  have cru22 := cr.out.1.2.2
  have cru2f := cr.out.2
  have Bq1 := hide (below_put3 (b := w.heap.size + 1) (B2.out) (by omega) (.int .i64 4) (.int .i64 z) (.string no))
  replace cv := hide (O3.other (b := w.heap.size + 1) (u0 := .int .i64 4) (u1 := .int .i64 z) (u2 := .string no) cv.out (by omega))
  replace cr := hide (cr.out.put (.int .i64 4) (.int .i64 z) (.string no))
  obtain ⟨wq1, hwq1⟩ : ∃ wq1, put3 (w2) (w.heap.size + 1) (.int .i64 4) (.int .i64 z) (.string no) = wq1 := ⟨_, rfl⟩
  rw [hwq1] at Bq1 cv cr
  unfold put3 at hwq1
  have cru30 := cr.out.1.1
  have cru31 := cr.out.1.2.1
  have cru32 := cr.out.1.2.2
  go_wp2_with fail
  refine bodyPost_ret (by simp [results, Tryz.results11, go_sem, cru30, cru31, cru32]; try rfl) rfl ?_
  exact ⟨rfl, Bq1.out⟩
set_option maxHeartbeats 1000000 in
theorem un_err3 (k i : Int) (t : ByteArray) (n z : Int) (hz : (z != 0) = true) (HN : CallIs 19 #[vV k i t] (iiV n z)) : CallIs 11 #[.int .i64 3, vV k i t] (vV 4 z no) := by
  intro w
  go_enter Tryz.func11, Tryz.ntmps11
  try simp only [List.append]
  have HE := cfault_is z
  go_wp2_with fail
  refine (HN.out _).mono ?_
  rintro e w1 ⟨rfl, hb1⟩
  have B1 := hide (next (step (step (Below.refl w.heap.size w) _) _) hb1)
  have cv := hide (((O3.new w (.int .i64 k) (.int .i64 i) (.string t) 30).alloc _).keep hb1)
  have cr := hide ((O3.new (w.alloc (vO k i t)) (.int .i64 0) (.int .i64 0) (.string no) 30).keep hb1)
  simp only [World.size_alloc] at cr
  go_wp2_with fail
  refine (HE.out _).mono ?_
  rintro e w2 ⟨rfl, hb2⟩
  have B2 := hide (next (B1.out) hb2)
  replace cv := hide (cv.out.keep hb2)
  replace cr := hide (cr.out.keep hb2)
  have cru20 := cr.out.1.1
  have cru21 := cr.out.1.2.1
  have cru22 := cr.out.1.2.2
  have cru2f := cr.out.2
  have Bq1 := hide (below_put3 (b := w.heap.size + 1) (B2.out) (by omega) (.int .i64 4) (.int .i64 z) (.string no))
  replace cv := hide (O3.other (b := w.heap.size + 1) (u0 := .int .i64 4) (u1 := .int .i64 z) (u2 := .string no) cv.out (by omega))
  replace cr := hide (cr.out.put (.int .i64 4) (.int .i64 z) (.string no))
  obtain ⟨wq1, hwq1⟩ : ∃ wq1, put3 (w2) (w.heap.size + 1) (.int .i64 4) (.int .i64 z) (.string no) = wq1 := ⟨_, rfl⟩
  rw [hwq1] at Bq1 cv cr
  unfold put3 at hwq1
  have cru30 := cr.out.1.1
  have cru31 := cr.out.1.2.1
  have cru32 := cr.out.1.2.2
  go_wp2_with fail
  refine bodyPost_ret (by simp [results, Tryz.results11, go_sem, cru30, cru31, cru32]; try rfl) rfl ?_
  exact ⟨rfl, Bq1.out⟩
set_option maxHeartbeats 1000000 in
theorem un_minus (k i : Int) (t : ByteArray) (n r : Int) (e : Bool) (k2 i2 : Int) (t2 : ByteArray) (HN : CallIs 19 #[vV k i t] (iiV n 0)) (HO : CallIs 21 #[.int .i64 0, .int .i64 n] (.tuple #[.int .i64 r, .bool e])) (HR : CallIs 20 #[.int .i64 r, .bool e] (vV k2 i2 t2)) : CallIs 11 #[.int .i64 1, vV k i t] (vV k2 i2 t2) := by
  intro w
  go_enter Tryz.func11, Tryz.ntmps11
  try simp only [List.append]
  go_wp2_with fail
  refine (HN.out _).mono ?_
  rintro e w1 ⟨rfl, hb1⟩
  have B1 := hide (next (step (step (Below.refl w.heap.size w) _) _) hb1)
  have cv := hide (((O3.new w (.int .i64 k) (.int .i64 i) (.string t) 30).alloc _).keep hb1)
  have cr := hide ((O3.new (w.alloc (vO k i t)) (.int .i64 0) (.int .i64 0) (.string no) 30).keep hb1)
  simp only [World.size_alloc] at cr
  go_wp2_with fail
  refine (HO.out _).mono ?_
  rintro e w2 ⟨rfl, hb2⟩
  have B2 := hide (next (B1.out) hb2)
  replace cv := hide (cv.out.keep hb2)
  replace cr := hide (cr.out.keep hb2)
  go_wp2_with fail
  refine (HR.out _).mono ?_
  rintro e w3 ⟨rfl, hb3⟩
  have B3 := hide (next (B2.out) hb3)
  replace cv := hide (cv.out.keep hb3)
  replace cr := hide (cr.out.keep hb3)
  have cru20 := cr.out.1.1
  have cru21 := cr.out.1.2.1
  have cru22 := cr.out.1.2.2
  have cru2f := cr.out.2
  have Bq1 := hide (below_put3 (b := w.heap.size + 1) (B3.out) (by omega) (.int .i64 k2) (.int .i64 i2) (.string t2))
  replace cv := hide (O3.other (b := w.heap.size + 1) (u0 := .int .i64 k2) (u1 := .int .i64 i2) (u2 := .string t2) cv.out (by omega))
  replace cr := hide (cr.out.put (.int .i64 k2) (.int .i64 i2) (.string t2))
  obtain ⟨wq1, hwq1⟩ : ∃ wq1, put3 (w3) (w.heap.size + 1) (.int .i64 k2) (.int .i64 i2) (.string t2) = wq1 := ⟨_, rfl⟩
  rw [hwq1] at Bq1 cv cr
  unfold put3 at hwq1
  have cru30 := cr.out.1.1
  have cru31 := cr.out.1.2.1
  have cru32 := cr.out.1.2.2
  go_wp2_with fail
  refine bodyPost_ret (by simp [results, Tryz.results11, go_sem, cru30, cru31, cru32]; try rfl) rfl ?_
  exact ⟨rfl, Bq1.out⟩
set_option maxHeartbeats 1000000 in
theorem un_plus (k i : Int) (t : ByteArray) (n : Int) (HN : CallIs 19 #[vV k i t] (iiV n 0)) : CallIs 11 #[.int .i64 2, vV k i t] (vV 1 n no) := by
  intro w
  go_enter Tryz.func11, Tryz.ntmps11
  try simp only [List.append]
  have HE := cnumber_is n
  go_wp2_with fail
  refine (HN.out _).mono ?_
  rintro e w1 ⟨rfl, hb1⟩
  have B1 := hide (next (step (step (Below.refl w.heap.size w) _) _) hb1)
  have cv := hide (((O3.new w (.int .i64 k) (.int .i64 i) (.string t) 30).alloc _).keep hb1)
  have cr := hide ((O3.new (w.alloc (vO k i t)) (.int .i64 0) (.int .i64 0) (.string no) 30).keep hb1)
  simp only [World.size_alloc] at cr
  go_wp2_with fail
  refine (HE.out _).mono ?_
  rintro e w2 ⟨rfl, hb2⟩
  have B2 := hide (next (B1.out) hb2)
  replace cv := hide (cv.out.keep hb2)
  replace cr := hide (cr.out.keep hb2)
  have cru20 := cr.out.1.1
  have cru21 := cr.out.1.2.1
  have cru22 := cr.out.1.2.2
  have cru2f := cr.out.2
  have Bq1 := hide (below_put3 (b := w.heap.size + 1) (B2.out) (by omega) (.int .i64 1) (.int .i64 n) (.string no))
  replace cv := hide (O3.other (b := w.heap.size + 1) (u0 := .int .i64 1) (u1 := .int .i64 n) (u2 := .string no) cv.out (by omega))
  replace cr := hide (cr.out.put (.int .i64 1) (.int .i64 n) (.string no))
  obtain ⟨wq1, hwq1⟩ : ∃ wq1, put3 (w2) (w.heap.size + 1) (.int .i64 1) (.int .i64 n) (.string no) = wq1 := ⟨_, rfl⟩
  rw [hwq1] at Bq1 cv cr
  unfold put3 at hwq1
  have cru30 := cr.out.1.1
  have cru31 := cr.out.1.2.1
  have cru32 := cr.out.1.2.2
  go_wp2_with fail
  refine bodyPost_ret (by simp [results, Tryz.results11, go_sem, cru30, cru31, cru32]; try rfl) rfl ?_
  exact ⟨rfl, Bq1.out⟩
set_option maxHeartbeats 1000000 in
theorem un_perc (k i : Int) (t : ByteArray) (n r e : Int) (k2 i2 : Int) (t2 : ByteArray) (HN : CallIs 19 #[vV k i t] (iiV n 0)) (HO : CallIs 23 #[.int .i64 n, .int .i64 100] (.tuple #[.int .i64 r, .int .i64 e])) (HR : CallIs 22 #[.int .i64 r, .int .i64 e] (vV k2 i2 t2)) : CallIs 11 #[.int .i64 3, vV k i t] (vV k2 i2 t2) := by
  intro w
  go_enter Tryz.func11, Tryz.ntmps11
  try simp only [List.append]
  go_wp2_with fail
  refine (HN.out _).mono ?_
  rintro e w1 ⟨rfl, hb1⟩
  have B1 := hide (next (step (step (Below.refl w.heap.size w) _) _) hb1)
  have cv := hide (((O3.new w (.int .i64 k) (.int .i64 i) (.string t) 30).alloc _).keep hb1)
  have cr := hide ((O3.new (w.alloc (vO k i t)) (.int .i64 0) (.int .i64 0) (.string no) 30).keep hb1)
  simp only [World.size_alloc] at cr
  go_wp2_with fail
  refine (HO.out _).mono ?_
  rintro e w2 ⟨rfl, hb2⟩
  have B2 := hide (next (B1.out) hb2)
  replace cv := hide (cv.out.keep hb2)
  replace cr := hide (cr.out.keep hb2)
  go_wp2_with fail
  refine (HR.out _).mono ?_
  rintro e w3 ⟨rfl, hb3⟩
  have B3 := hide (next (B2.out) hb3)
  replace cv := hide (cv.out.keep hb3)
  replace cr := hide (cr.out.keep hb3)
  have cru20 := cr.out.1.1
  have cru21 := cr.out.1.2.1
  have cru22 := cr.out.1.2.2
  have cru2f := cr.out.2
  have Bq1 := hide (below_put3 (b := w.heap.size + 1) (B3.out) (by omega) (.int .i64 k2) (.int .i64 i2) (.string t2))
  replace cv := hide (O3.other (b := w.heap.size + 1) (u0 := .int .i64 k2) (u1 := .int .i64 i2) (u2 := .string t2) cv.out (by omega))
  replace cr := hide (cr.out.put (.int .i64 k2) (.int .i64 i2) (.string t2))
  obtain ⟨wq1, hwq1⟩ : ∃ wq1, put3 (w3) (w.heap.size + 1) (.int .i64 k2) (.int .i64 i2) (.string t2) = wq1 := ⟨_, rfl⟩
  rw [hwq1] at Bq1 cv cr
  unfold put3 at hwq1
  have cru30 := cr.out.1.1
  have cru31 := cr.out.1.2.1
  have cru32 := cr.out.1.2.2
  go_wp2_with fail
  refine bodyPost_ret (by simp [results, Tryz.results11, go_sem, cru30, cru31, cru32]; try rfl) rfl ?_
  exact ⟨rfl, Bq1.out⟩
set_option maxHeartbeats 1000000 in
theorem bin_lo (op : Int) (x0 x1 : Int) (x2 : ByteArray) (y0 y1 : Int) (y2 : ByteArray) (h : op < 1) : CallIs 12 #[.int .i64 op, vV x0 x1 x2, vV y0 y1 y2] (vV 4 4 no) := by
  intro w
  go_enter Tryz.func12, Tryz.ntmps12
  try simp only [List.append]
  have HE := cfault_is 4
  go_wp2_with fail
  refine (HE.out _).mono ?_
  rintro e w1 ⟨rfl, hb1⟩
  have B1 := hide (next (step (step (step (Below.refl w.heap.size w) _) _) _) hb1)
  have cx := hide ((((O3.new w (.int .i64 x0) (.int .i64 x1) (.string x2) 30).alloc _).alloc _).keep hb1)
  have cy := hide (((O3.new (w.alloc (vO x0 x1 x2)) (.int .i64 y0) (.int .i64 y1) (.string y2) 30).alloc _).keep hb1)
  simp only [World.size_alloc] at cy
  have cr := hide ((O3.new ((w.alloc (vO x0 x1 x2)).alloc (vO y0 y1 y2)) (.int .i64 0) (.int .i64 0) (.string no) 30).keep hb1)
  simp only [World.size_alloc] at cr
  have cru20 := cr.out.1.1
  have cru21 := cr.out.1.2.1
  have cru22 := cr.out.1.2.2
  have cru2f := cr.out.2
  have Bq1 := hide (below_put3 (b := w.heap.size + 2) (B1.out) (by omega) (.int .i64 4) (.int .i64 4) (.string no))
  replace cx := hide (O3.other (b := w.heap.size + 2) (u0 := .int .i64 4) (u1 := .int .i64 4) (u2 := .string no) cx.out (by omega))
  replace cy := hide (O3.other (b := w.heap.size + 2) (u0 := .int .i64 4) (u1 := .int .i64 4) (u2 := .string no) cy.out (by omega))
  replace cr := hide (cr.out.put (.int .i64 4) (.int .i64 4) (.string no))
  obtain ⟨wq1, hwq1⟩ : ∃ wq1, put3 (w1) (w.heap.size + 2) (.int .i64 4) (.int .i64 4) (.string no) = wq1 := ⟨_, rfl⟩
  rw [hwq1] at Bq1 cx cy cr
  unfold put3 at hwq1
  have cru30 := cr.out.1.1
  have cru31 := cr.out.1.2.1
  have cru32 := cr.out.1.2.2
  go_wp2_with fail
  refine bodyPost_ret (by simp [results, Tryz.results12, go_sem, cru30, cru31, cru32]; try rfl) rfl ?_
  exact ⟨rfl, Bq1.out⟩
set_option maxHeartbeats 1000000 in
theorem bin_hi (op : Int) (x0 x1 : Int) (x2 : ByteArray) (y0 y1 : Int) (y2 : ByteArray) (h : 12 < op) : CallIs 12 #[.int .i64 op, vV x0 x1 x2, vV y0 y1 y2] (vV 4 4 no) := by
  intro w
  have q1 : ¬ op < 1 := by omega
  go_enter Tryz.func12, Tryz.ntmps12
  try simp only [List.append]
  have HE := cfault_is 4
  go_wp2_with fail
  refine (HE.out _).mono ?_
  rintro e w1 ⟨rfl, hb1⟩
  have B1 := hide (next (step (step (step (Below.refl w.heap.size w) _) _) _) hb1)
  have cx := hide ((((O3.new w (.int .i64 x0) (.int .i64 x1) (.string x2) 30).alloc _).alloc _).keep hb1)
  have cy := hide (((O3.new (w.alloc (vO x0 x1 x2)) (.int .i64 y0) (.int .i64 y1) (.string y2) 30).alloc _).keep hb1)
  simp only [World.size_alloc] at cy
  have cr := hide ((O3.new ((w.alloc (vO x0 x1 x2)).alloc (vO y0 y1 y2)) (.int .i64 0) (.int .i64 0) (.string no) 30).keep hb1)
  simp only [World.size_alloc] at cr
  have cru20 := cr.out.1.1
  have cru21 := cr.out.1.2.1
  have cru22 := cr.out.1.2.2
  have cru2f := cr.out.2
  have Bq1 := hide (below_put3 (b := w.heap.size + 2) (B1.out) (by omega) (.int .i64 4) (.int .i64 4) (.string no))
  replace cx := hide (O3.other (b := w.heap.size + 2) (u0 := .int .i64 4) (u1 := .int .i64 4) (u2 := .string no) cx.out (by omega))
  replace cy := hide (O3.other (b := w.heap.size + 2) (u0 := .int .i64 4) (u1 := .int .i64 4) (u2 := .string no) cy.out (by omega))
  replace cr := hide (cr.out.put (.int .i64 4) (.int .i64 4) (.string no))
  obtain ⟨wq1, hwq1⟩ : ∃ wq1, put3 (w1) (w.heap.size + 2) (.int .i64 4) (.int .i64 4) (.string no) = wq1 := ⟨_, rfl⟩
  rw [hwq1] at Bq1 cx cy cr
  unfold put3 at hwq1
  have cru30 := cr.out.1.1
  have cru31 := cr.out.1.2.1
  have cru32 := cr.out.1.2.2
  go_wp2_with fail
  refine bodyPost_ret (by simp [results, Tryz.results12, go_sem, cru30, cru31, cru32]; try rfl) rfl ?_
  exact ⟨rfl, Bq1.out⟩
set_option maxHeartbeats 2000000 in
theorem bin_err1 (op : Int) (ho : 1 ≤ op ∧ op ≤ 12) (x0 x1 : Int) (x2 : ByteArray) (y0 y1 : Int) (y2 : ByteArray) (a1 : Int) (a2 : ByteArray) (b0 b1 : Int) (b2 : ByteArray) (HA : CallIs 25 #[vV x0 x1 x2] (vV 4 a1 a2)) (HB : CallIs 25 #[vV y0 y1 y2] (vV b0 b1 b2)) : CallIs 12 #[.int .i64 op, vV x0 x1 x2, vV y0 y1 y2] (vV 4 a1 a2) := by
  intro w
  have q1 : ¬ op < 1 := by omega
  have q2 : ¬ 12 < op := by omega
  clear ho
  go_enter Tryz.func12, Tryz.ntmps12
  try simp only [List.append]
  have cx : Hid (O3 (((w.alloc (vO x0 x1 x2)).alloc (vO y0 y1 y2)).alloc (vO 0 0 no)) (w.heap.size) (.int .i64 x0) (.int .i64 x1) (.string x2)) := hide (by have h0 := (((O3.new w (.int .i64 x0) (.int .i64 x1) (.string x2) 30).alloc (vO y0 y1 y2)).alloc (vO 0 0 no)); exact h0)
  have cy : Hid (O3 (((w.alloc (vO x0 x1 x2)).alloc (vO y0 y1 y2)).alloc (vO 0 0 no)) (w.heap.size + 1) (.int .i64 y0) (.int .i64 y1) (.string y2)) := hide (by have h0 := ((O3.new (w.alloc (vO x0 x1 x2)) (.int .i64 y0) (.int .i64 y1) (.string y2) 30).alloc (vO 0 0 no)); simp only [World.size_alloc] at h0; exact h0)
  have cr : Hid (O3 (((w.alloc (vO x0 x1 x2)).alloc (vO y0 y1 y2)).alloc (vO 0 0 no)) (w.heap.size + 2) (.int .i64 0) (.int .i64 0) (.string no)) := hide (by have h0 := (O3.new ((w.alloc (vO x0 x1 x2)).alloc (vO y0 y1 y2)) (.int .i64 0) (.int .i64 0) (.string no) 30); simp only [World.size_alloc] at h0; exact h0)
  have qcx10 := cell_regrown cx.out.1.1
  have qcx11 := cell_regrown cx.out.1.2.1
  have qcx12 := cell_regrown cx.out.1.2.2
  have qcy10 := cell_regrown cy.out.1.1
  have qcy11 := cell_regrown cy.out.1.2.1
  have qcy12 := cell_regrown cy.out.1.2.2
  have k10 := fun d' os => Calls.regrown_of (HA.out (grow (redrawn (((w.alloc (vO x0 x1 x2)).alloc (vO y0 y1 y2)).alloc (vO 0 0 no)) d') os))
  have k11 := fun d' os => Calls.regrown_of (HB.out (grow (redrawn (((w.alloc (vO x0 x1 x2)).alloc (vO y0 y1 y2)).alloc (vO 0 0 no)) d') os))
  go_wp2_with fail
  refine quiet_tail 4 (by kernel_rfl) (by kernel_rfl) ?_
  simp only [List.take_succ_cons, List.take_zero, List.drop_succ_cons, List.drop_zero]
  repeat (go_big_quiet_step (first | (with_reducible exact k10 _ _) | (with_reducible exact k11 _ _)))
  refine wpQuiet_nil ?_
  intro w1 hw1
  have hb1 : Below ((((w.alloc (vO x0 x1 x2)).alloc (vO y0 y1 y2)).alloc (vO 0 0 no))).heap.size (((w.alloc (vO x0 x1 x2)).alloc (vO y0 y1 y2)).alloc (vO 0 0 no)) w1 := by obtain ⟨⟨dq, osq⟩, hq⟩ := hw1; rw [hq]; exact below_regrown _ dq osq
  clear hw1 qcx10 qcx11 qcx12 qcy10 qcy11 qcy12 k10 k11
  have B1 := hide (next (step (step (step (Below.refl w.heap.size w) (vO x0 x1 x2)) (vO y0 y1 y2)) (vO 0 0 no)) hb1)
  replace cx := hide (cx.out.keep hb1)
  replace cy := hide (cy.out.keep hb1)
  replace cr := hide (cr.out.keep hb1)
  have cxu20 := cx.out.1.1
  have cxu21 := cx.out.1.2.1
  have cxu22 := cx.out.1.2.2
  have cxu2f := cx.out.2
  have Bq1 := hide (below_put3 (b := w.heap.size) (B1.out) (by omega) (.int .i64 4) (.int .i64 a1) (.string a2))
  replace cx := hide (cx.out.put (.int .i64 4) (.int .i64 a1) (.string a2))
  replace cy := hide (O3.other (b := w.heap.size) (u0 := .int .i64 4) (u1 := .int .i64 a1) (u2 := .string a2) cy.out (by omega))
  replace cr := hide (O3.other (b := w.heap.size) (u0 := .int .i64 4) (u1 := .int .i64 a1) (u2 := .string a2) cr.out (by omega))
  obtain ⟨wq1, hwq1⟩ : ∃ wq1, put3 (w1) (w.heap.size) (.int .i64 4) (.int .i64 a1) (.string a2) = wq1 := ⟨_, rfl⟩
  rw [hwq1] at Bq1 cx cy cr
  unfold put3 at hwq1
  have cyu40 := cy.out.1.1
  have cyu41 := cy.out.1.2.1
  have cyu42 := cy.out.1.2.2
  have cyu4f := cy.out.2
  have Bq3 := hide (below_put3 (b := w.heap.size + 1) (Bq1.out) (by omega) (.int .i64 b0) (.int .i64 b1) (.string b2))
  replace cx := hide (O3.other (b := w.heap.size + 1) (u0 := .int .i64 b0) (u1 := .int .i64 b1) (u2 := .string b2) cx.out (by omega))
  replace cy := hide (cy.out.put (.int .i64 b0) (.int .i64 b1) (.string b2))
  replace cr := hide (O3.other (b := w.heap.size + 1) (u0 := .int .i64 b0) (u1 := .int .i64 b1) (u2 := .string b2) cr.out (by omega))
  obtain ⟨wq3, hwq3⟩ : ∃ wq3, put3 (wq1) (w.heap.size + 1) (.int .i64 b0) (.int .i64 b1) (.string b2) = wq3 := ⟨_, rfl⟩
  rw [hwq3] at Bq3 cx cy cr
  unfold put3 at hwq3
  have cxu50 := cx.out.1.1
  have cxu51 := cx.out.1.2.1
  have cxu52 := cx.out.1.2.2
  have cyu60 := cy.out.1.1
  have cyu61 := cy.out.1.2.1
  have cyu62 := cy.out.1.2.2
  go_wp2_with fail
  refine (fe2_first _ ⟨4, a1, a2⟩ ⟨b0, b1, b2⟩ rfl).mono ?_
  rintro e w2 ⟨rfl, hb2⟩
  clear cxu20
  clear cxu21
  clear cxu22
  clear cxu2f
  clear cyu40
  clear cyu41
  clear cyu42
  clear cyu4f
  clear cxu50
  clear cxu51
  clear cxu52
  clear cyu60
  clear cyu61
  clear cyu62
  have B2 := hide (next (step (Bq3.out) _) hb2)
  replace cx := hide ((cx.out.alloc _).keep hb2)
  replace cy := hide ((cy.out.alloc _).keep hb2)
  replace cr := hide ((cr.out.alloc _).keep hb2)
  replace cx := hide ((cx.out.alloc (vO 4 a1 a2)))
  replace cy := hide ((cy.out.alloc (vO 4 a1 a2)))
  replace cr := hide ((cr.out.alloc (vO 4 a1 a2)))
  have cru80 := cr.out.1.1
  have cru81 := cr.out.1.2.1
  have cru82 := cr.out.1.2.2
  have cru8f := cr.out.2
  have Bq7 := hide (below_put3 (b := w.heap.size + 2) (step (B2.out) (vO 4 a1 a2)) (by omega) (.int .i64 4) (.int .i64 a1) (.string a2))
  replace cx := hide (O3.other (b := w.heap.size + 2) (u0 := .int .i64 4) (u1 := .int .i64 a1) (u2 := .string a2) cx.out (by omega))
  replace cy := hide (O3.other (b := w.heap.size + 2) (u0 := .int .i64 4) (u1 := .int .i64 a1) (u2 := .string a2) cy.out (by omega))
  replace cr := hide (cr.out.put (.int .i64 4) (.int .i64 a1) (.string a2))
  obtain ⟨wq7, hwq7⟩ : ∃ wq7, put3 ((w2.alloc (vO 4 a1 a2))) (w.heap.size + 2) (.int .i64 4) (.int .i64 a1) (.string a2) = wq7 := ⟨_, rfl⟩
  rw [hwq7] at Bq7 cx cy cr
  unfold put3 at hwq7
  have cru90 := cr.out.1.1
  have cru91 := cr.out.1.2.1
  have cru92 := cr.out.1.2.2
  go_wp2_with fail
  refine bodyPost_ret (by simp [results, Tryz.results12, go_sem, cru90, cru91, cru92]; try rfl) rfl ?_
  exact ⟨rfl, Bq7.out⟩
set_option maxHeartbeats 2000000 in
theorem bin_err2 (op : Int) (ho : 1 ≤ op ∧ op ≤ 12) (x0 x1 : Int) (x2 : ByteArray) (y0 y1 : Int) (y2 : ByteArray) (a0 a1 : Int) (a2 : ByteArray) (b1 : Int) (b2 : ByteArray) (HA : CallIs 25 #[vV x0 x1 x2] (vV a0 a1 a2)) (HB : CallIs 25 #[vV y0 y1 y2] (vV 4 b1 b2)) (h4 : a0 ≠ 4) : CallIs 12 #[.int .i64 op, vV x0 x1 x2, vV y0 y1 y2] (vV 4 b1 b2) := by
  intro w
  have q1 : ¬ op < 1 := by omega
  have q2 : ¬ 12 < op := by omega
  clear ho
  go_enter Tryz.func12, Tryz.ntmps12
  try simp only [List.append]
  have cx : Hid (O3 (((w.alloc (vO x0 x1 x2)).alloc (vO y0 y1 y2)).alloc (vO 0 0 no)) (w.heap.size) (.int .i64 x0) (.int .i64 x1) (.string x2)) := hide (by have h0 := (((O3.new w (.int .i64 x0) (.int .i64 x1) (.string x2) 30).alloc (vO y0 y1 y2)).alloc (vO 0 0 no)); exact h0)
  have cy : Hid (O3 (((w.alloc (vO x0 x1 x2)).alloc (vO y0 y1 y2)).alloc (vO 0 0 no)) (w.heap.size + 1) (.int .i64 y0) (.int .i64 y1) (.string y2)) := hide (by have h0 := ((O3.new (w.alloc (vO x0 x1 x2)) (.int .i64 y0) (.int .i64 y1) (.string y2) 30).alloc (vO 0 0 no)); simp only [World.size_alloc] at h0; exact h0)
  have cr : Hid (O3 (((w.alloc (vO x0 x1 x2)).alloc (vO y0 y1 y2)).alloc (vO 0 0 no)) (w.heap.size + 2) (.int .i64 0) (.int .i64 0) (.string no)) := hide (by have h0 := (O3.new ((w.alloc (vO x0 x1 x2)).alloc (vO y0 y1 y2)) (.int .i64 0) (.int .i64 0) (.string no) 30); simp only [World.size_alloc] at h0; exact h0)
  have qcx10 := cell_regrown cx.out.1.1
  have qcx11 := cell_regrown cx.out.1.2.1
  have qcx12 := cell_regrown cx.out.1.2.2
  have qcy10 := cell_regrown cy.out.1.1
  have qcy11 := cell_regrown cy.out.1.2.1
  have qcy12 := cell_regrown cy.out.1.2.2
  have k10 := fun d' os => Calls.regrown_of (HA.out (grow (redrawn (((w.alloc (vO x0 x1 x2)).alloc (vO y0 y1 y2)).alloc (vO 0 0 no)) d') os))
  have k11 := fun d' os => Calls.regrown_of (HB.out (grow (redrawn (((w.alloc (vO x0 x1 x2)).alloc (vO y0 y1 y2)).alloc (vO 0 0 no)) d') os))
  go_wp2_with fail
  refine quiet_tail 4 (by kernel_rfl) (by kernel_rfl) ?_
  simp only [List.take_succ_cons, List.take_zero, List.drop_succ_cons, List.drop_zero]
  repeat (go_big_quiet_step (first | (with_reducible exact k10 _ _) | (with_reducible exact k11 _ _)))
  refine wpQuiet_nil ?_
  intro w1 hw1
  have hb1 : Below ((((w.alloc (vO x0 x1 x2)).alloc (vO y0 y1 y2)).alloc (vO 0 0 no))).heap.size (((w.alloc (vO x0 x1 x2)).alloc (vO y0 y1 y2)).alloc (vO 0 0 no)) w1 := by obtain ⟨⟨dq, osq⟩, hq⟩ := hw1; rw [hq]; exact below_regrown _ dq osq
  clear hw1 qcx10 qcx11 qcx12 qcy10 qcy11 qcy12 k10 k11
  have B1 := hide (next (step (step (step (Below.refl w.heap.size w) (vO x0 x1 x2)) (vO y0 y1 y2)) (vO 0 0 no)) hb1)
  replace cx := hide (cx.out.keep hb1)
  replace cy := hide (cy.out.keep hb1)
  replace cr := hide (cr.out.keep hb1)
  have cxu20 := cx.out.1.1
  have cxu21 := cx.out.1.2.1
  have cxu22 := cx.out.1.2.2
  have cxu2f := cx.out.2
  have Bq1 := hide (below_put3 (b := w.heap.size) (B1.out) (by omega) (.int .i64 a0) (.int .i64 a1) (.string a2))
  replace cx := hide (cx.out.put (.int .i64 a0) (.int .i64 a1) (.string a2))
  replace cy := hide (O3.other (b := w.heap.size) (u0 := .int .i64 a0) (u1 := .int .i64 a1) (u2 := .string a2) cy.out (by omega))
  replace cr := hide (O3.other (b := w.heap.size) (u0 := .int .i64 a0) (u1 := .int .i64 a1) (u2 := .string a2) cr.out (by omega))
  obtain ⟨wq1, hwq1⟩ : ∃ wq1, put3 (w1) (w.heap.size) (.int .i64 a0) (.int .i64 a1) (.string a2) = wq1 := ⟨_, rfl⟩
  rw [hwq1] at Bq1 cx cy cr
  unfold put3 at hwq1
  have cyu40 := cy.out.1.1
  have cyu41 := cy.out.1.2.1
  have cyu42 := cy.out.1.2.2
  have cyu4f := cy.out.2
  have Bq3 := hide (below_put3 (b := w.heap.size + 1) (Bq1.out) (by omega) (.int .i64 4) (.int .i64 b1) (.string b2))
  replace cx := hide (O3.other (b := w.heap.size + 1) (u0 := .int .i64 4) (u1 := .int .i64 b1) (u2 := .string b2) cx.out (by omega))
  replace cy := hide (cy.out.put (.int .i64 4) (.int .i64 b1) (.string b2))
  replace cr := hide (O3.other (b := w.heap.size + 1) (u0 := .int .i64 4) (u1 := .int .i64 b1) (u2 := .string b2) cr.out (by omega))
  obtain ⟨wq3, hwq3⟩ : ∃ wq3, put3 (wq1) (w.heap.size + 1) (.int .i64 4) (.int .i64 b1) (.string b2) = wq3 := ⟨_, rfl⟩
  rw [hwq3] at Bq3 cx cy cr
  unfold put3 at hwq3
  have cxu50 := cx.out.1.1
  have cxu51 := cx.out.1.2.1
  have cxu52 := cx.out.1.2.2
  have cyu60 := cy.out.1.1
  have cyu61 := cy.out.1.2.1
  have cyu62 := cy.out.1.2.2
  go_wp2_with fail
  refine (fe2_second _ ⟨a0, a1, a2⟩ ⟨4, b1, b2⟩ h4 rfl).mono ?_
  rintro e w2 ⟨rfl, hb2⟩
  clear cxu20
  clear cxu21
  clear cxu22
  clear cxu2f
  clear cyu40
  clear cyu41
  clear cyu42
  clear cyu4f
  clear cxu50
  clear cxu51
  clear cxu52
  clear cyu60
  clear cyu61
  clear cyu62
  have B2 := hide (next (step (Bq3.out) _) hb2)
  replace cx := hide ((cx.out.alloc _).keep hb2)
  replace cy := hide ((cy.out.alloc _).keep hb2)
  replace cr := hide ((cr.out.alloc _).keep hb2)
  replace cx := hide ((cx.out.alloc (vO 4 b1 b2)))
  replace cy := hide ((cy.out.alloc (vO 4 b1 b2)))
  replace cr := hide ((cr.out.alloc (vO 4 b1 b2)))
  have cru80 := cr.out.1.1
  have cru81 := cr.out.1.2.1
  have cru82 := cr.out.1.2.2
  have cru8f := cr.out.2
  have Bq7 := hide (below_put3 (b := w.heap.size + 2) (step (B2.out) (vO 4 b1 b2)) (by omega) (.int .i64 4) (.int .i64 b1) (.string b2))
  replace cx := hide (O3.other (b := w.heap.size + 2) (u0 := .int .i64 4) (u1 := .int .i64 b1) (u2 := .string b2) cx.out (by omega))
  replace cy := hide (O3.other (b := w.heap.size + 2) (u0 := .int .i64 4) (u1 := .int .i64 b1) (u2 := .string b2) cy.out (by omega))
  replace cr := hide (cr.out.put (.int .i64 4) (.int .i64 b1) (.string b2))
  obtain ⟨wq7, hwq7⟩ : ∃ wq7, put3 ((w2.alloc (vO 4 b1 b2))) (w.heap.size + 2) (.int .i64 4) (.int .i64 b1) (.string b2) = wq7 := ⟨_, rfl⟩
  rw [hwq7] at Bq7 cx cy cr
  unfold put3 at hwq7
  have cru90 := cr.out.1.1
  have cru91 := cr.out.1.2.1
  have cru92 := cr.out.1.2.2
  go_wp2_with fail
  refine bodyPost_ret (by simp [results, Tryz.results12, go_sem, cru90, cru91, cru92]; try rfl) rfl ?_
  exact ⟨rfl, Bq7.out⟩
set_option maxHeartbeats 2000000 in
theorem bin_sum1 (x0 x1 : Int) (x2 : ByteArray) (y0 y1 : Int) (y2 : ByteArray) (a0 a1 : Int) (a2 : ByteArray) (b0 b1 : Int) (b2 : ByteArray) (HA : CallIs 25 #[vV x0 x1 x2] (vV a0 a1 a2)) (HB : CallIs 25 #[vV y0 y1 y2] (vV b0 b1 b2)) (h4 : a0 ≠ 4) (h5 : b0 ≠ 4) (k i : Int) (t : ByteArray) (HO : CallIs 27 #[.int .i64 1, vV a0 a1 a2, vV b0 b1 b2] (vV k i t)) : CallIs 12 #[.int .i64 1, vV x0 x1 x2, vV y0 y1 y2] (vV k i t) := by
  intro w
  go_enter Tryz.func12, Tryz.ntmps12
  try simp only [List.append]
  have cx : Hid (O3 (((w.alloc (vO x0 x1 x2)).alloc (vO y0 y1 y2)).alloc (vO 0 0 no)) (w.heap.size) (.int .i64 x0) (.int .i64 x1) (.string x2)) := hide (by have h0 := (((O3.new w (.int .i64 x0) (.int .i64 x1) (.string x2) 30).alloc (vO y0 y1 y2)).alloc (vO 0 0 no)); exact h0)
  have cy : Hid (O3 (((w.alloc (vO x0 x1 x2)).alloc (vO y0 y1 y2)).alloc (vO 0 0 no)) (w.heap.size + 1) (.int .i64 y0) (.int .i64 y1) (.string y2)) := hide (by have h0 := ((O3.new (w.alloc (vO x0 x1 x2)) (.int .i64 y0) (.int .i64 y1) (.string y2) 30).alloc (vO 0 0 no)); simp only [World.size_alloc] at h0; exact h0)
  have cr : Hid (O3 (((w.alloc (vO x0 x1 x2)).alloc (vO y0 y1 y2)).alloc (vO 0 0 no)) (w.heap.size + 2) (.int .i64 0) (.int .i64 0) (.string no)) := hide (by have h0 := (O3.new ((w.alloc (vO x0 x1 x2)).alloc (vO y0 y1 y2)) (.int .i64 0) (.int .i64 0) (.string no) 30); simp only [World.size_alloc] at h0; exact h0)
  have qcx10 := cell_regrown cx.out.1.1
  have qcx11 := cell_regrown cx.out.1.2.1
  have qcx12 := cell_regrown cx.out.1.2.2
  have qcy10 := cell_regrown cy.out.1.1
  have qcy11 := cell_regrown cy.out.1.2.1
  have qcy12 := cell_regrown cy.out.1.2.2
  have k10 := fun d' os => Calls.regrown_of (HA.out (grow (redrawn (((w.alloc (vO x0 x1 x2)).alloc (vO y0 y1 y2)).alloc (vO 0 0 no)) d') os))
  have k11 := fun d' os => Calls.regrown_of (HB.out (grow (redrawn (((w.alloc (vO x0 x1 x2)).alloc (vO y0 y1 y2)).alloc (vO 0 0 no)) d') os))
  go_wp2_with fail
  refine quiet_tail 4 (by kernel_rfl) (by kernel_rfl) ?_
  simp only [List.take_succ_cons, List.take_zero, List.drop_succ_cons, List.drop_zero]
  repeat (go_big_quiet_step (first | (with_reducible exact k10 _ _) | (with_reducible exact k11 _ _)))
  refine wpQuiet_nil ?_
  intro w1 hw1
  have hb1 : Below ((((w.alloc (vO x0 x1 x2)).alloc (vO y0 y1 y2)).alloc (vO 0 0 no))).heap.size (((w.alloc (vO x0 x1 x2)).alloc (vO y0 y1 y2)).alloc (vO 0 0 no)) w1 := by obtain ⟨⟨dq, osq⟩, hq⟩ := hw1; rw [hq]; exact below_regrown _ dq osq
  clear hw1 qcx10 qcx11 qcx12 qcy10 qcy11 qcy12 k10 k11
  have B1 := hide (next (step (step (step (Below.refl w.heap.size w) (vO x0 x1 x2)) (vO y0 y1 y2)) (vO 0 0 no)) hb1)
  replace cx := hide (cx.out.keep hb1)
  replace cy := hide (cy.out.keep hb1)
  replace cr := hide (cr.out.keep hb1)
  have cxu20 := cx.out.1.1
  have cxu21 := cx.out.1.2.1
  have cxu22 := cx.out.1.2.2
  have cxu2f := cx.out.2
  have Bq1 := hide (below_put3 (b := w.heap.size) (B1.out) (by omega) (.int .i64 a0) (.int .i64 a1) (.string a2))
  replace cx := hide (cx.out.put (.int .i64 a0) (.int .i64 a1) (.string a2))
  replace cy := hide (O3.other (b := w.heap.size) (u0 := .int .i64 a0) (u1 := .int .i64 a1) (u2 := .string a2) cy.out (by omega))
  replace cr := hide (O3.other (b := w.heap.size) (u0 := .int .i64 a0) (u1 := .int .i64 a1) (u2 := .string a2) cr.out (by omega))
  obtain ⟨wq1, hwq1⟩ : ∃ wq1, put3 (w1) (w.heap.size) (.int .i64 a0) (.int .i64 a1) (.string a2) = wq1 := ⟨_, rfl⟩
  rw [hwq1] at Bq1 cx cy cr
  unfold put3 at hwq1
  have cyu40 := cy.out.1.1
  have cyu41 := cy.out.1.2.1
  have cyu42 := cy.out.1.2.2
  have cyu4f := cy.out.2
  have Bq3 := hide (below_put3 (b := w.heap.size + 1) (Bq1.out) (by omega) (.int .i64 b0) (.int .i64 b1) (.string b2))
  replace cx := hide (O3.other (b := w.heap.size + 1) (u0 := .int .i64 b0) (u1 := .int .i64 b1) (u2 := .string b2) cx.out (by omega))
  replace cy := hide (cy.out.put (.int .i64 b0) (.int .i64 b1) (.string b2))
  replace cr := hide (O3.other (b := w.heap.size + 1) (u0 := .int .i64 b0) (u1 := .int .i64 b1) (u2 := .string b2) cr.out (by omega))
  obtain ⟨wq3, hwq3⟩ : ∃ wq3, put3 (wq1) (w.heap.size + 1) (.int .i64 b0) (.int .i64 b1) (.string b2) = wq3 := ⟨_, rfl⟩
  rw [hwq3] at Bq3 cx cy cr
  unfold put3 at hwq3
  have cxu50 := cx.out.1.1
  have cxu51 := cx.out.1.2.1
  have cxu52 := cx.out.1.2.2
  have cyu60 := cy.out.1.1
  have cyu61 := cy.out.1.2.1
  have cyu62 := cy.out.1.2.2
  go_wp2_with fail
  refine (fe2_none _ ⟨a0, a1, a2⟩ ⟨b0, b1, b2⟩ h4 h5).mono ?_
  rintro e w2 ⟨rfl, hb2⟩
  clear cxu20
  clear cxu21
  clear cxu22
  clear cxu2f
  clear cyu40
  clear cyu41
  clear cyu42
  clear cyu4f
  clear cxu50
  clear cxu51
  clear cxu52
  clear cyu60
  clear cyu61
  clear cyu62
  have B2 := hide (next (step (Bq3.out) _) hb2)
  replace cx := hide ((cx.out.alloc _).keep hb2)
  replace cy := hide ((cy.out.alloc _).keep hb2)
  replace cr := hide ((cr.out.alloc _).keep hb2)
  replace cx := hide ((cx.out.alloc (vO 0 0 no)))
  replace cy := hide ((cy.out.alloc (vO 0 0 no)))
  replace cr := hide ((cr.out.alloc (vO 0 0 no)))
  have cxu70 := cx.out.1.1
  have cxu71 := cx.out.1.2.1
  have cxu72 := cx.out.1.2.2
  have cyu80 := cy.out.1.1
  have cyu81 := cy.out.1.2.1
  have cyu82 := cy.out.1.2.2
  go_wp2_with fail
  refine (HO.out _).mono ?_
  rintro e w3 ⟨rfl, hb3⟩
  clear cxu70
  clear cxu71
  clear cxu72
  clear cyu80
  clear cyu81
  clear cyu82
  have B3 := hide (next (step (B2.out) (vO 0 0 no)) hb3)
  replace cx := hide (cx.out.keep hb3)
  replace cy := hide (cy.out.keep hb3)
  replace cr := hide (cr.out.keep hb3)
  have cru100 := cr.out.1.1
  have cru101 := cr.out.1.2.1
  have cru102 := cr.out.1.2.2
  have cru10f := cr.out.2
  have Bq9 := hide (below_put3 (b := w.heap.size + 2) (B3.out) (by omega) (.int .i64 k) (.int .i64 i) (.string t))
  replace cx := hide (O3.other (b := w.heap.size + 2) (u0 := .int .i64 k) (u1 := .int .i64 i) (u2 := .string t) cx.out (by omega))
  replace cy := hide (O3.other (b := w.heap.size + 2) (u0 := .int .i64 k) (u1 := .int .i64 i) (u2 := .string t) cy.out (by omega))
  replace cr := hide (cr.out.put (.int .i64 k) (.int .i64 i) (.string t))
  obtain ⟨wq9, hwq9⟩ : ∃ wq9, put3 (w3) (w.heap.size + 2) (.int .i64 k) (.int .i64 i) (.string t) = wq9 := ⟨_, rfl⟩
  rw [hwq9] at Bq9 cx cy cr
  unfold put3 at hwq9
  have cru110 := cr.out.1.1
  have cru111 := cr.out.1.2.1
  have cru112 := cr.out.1.2.2
  go_wp2_with fail
  refine bodyPost_ret (by simp [results, Tryz.results12, go_sem, cru110, cru111, cru112]; try rfl) rfl ?_
  exact ⟨rfl, Bq9.out⟩
set_option maxHeartbeats 2000000 in
theorem bin_sum2 (x0 x1 : Int) (x2 : ByteArray) (y0 y1 : Int) (y2 : ByteArray) (a0 a1 : Int) (a2 : ByteArray) (b0 b1 : Int) (b2 : ByteArray) (HA : CallIs 25 #[vV x0 x1 x2] (vV a0 a1 a2)) (HB : CallIs 25 #[vV y0 y1 y2] (vV b0 b1 b2)) (h4 : a0 ≠ 4) (h5 : b0 ≠ 4) (k i : Int) (t : ByteArray) (HO : CallIs 27 #[.int .i64 2, vV a0 a1 a2, vV b0 b1 b2] (vV k i t)) : CallIs 12 #[.int .i64 2, vV x0 x1 x2, vV y0 y1 y2] (vV k i t) := by
  intro w
  go_enter Tryz.func12, Tryz.ntmps12
  try simp only [List.append]
  have cx : Hid (O3 (((w.alloc (vO x0 x1 x2)).alloc (vO y0 y1 y2)).alloc (vO 0 0 no)) (w.heap.size) (.int .i64 x0) (.int .i64 x1) (.string x2)) := hide (by have h0 := (((O3.new w (.int .i64 x0) (.int .i64 x1) (.string x2) 30).alloc (vO y0 y1 y2)).alloc (vO 0 0 no)); exact h0)
  have cy : Hid (O3 (((w.alloc (vO x0 x1 x2)).alloc (vO y0 y1 y2)).alloc (vO 0 0 no)) (w.heap.size + 1) (.int .i64 y0) (.int .i64 y1) (.string y2)) := hide (by have h0 := ((O3.new (w.alloc (vO x0 x1 x2)) (.int .i64 y0) (.int .i64 y1) (.string y2) 30).alloc (vO 0 0 no)); simp only [World.size_alloc] at h0; exact h0)
  have cr : Hid (O3 (((w.alloc (vO x0 x1 x2)).alloc (vO y0 y1 y2)).alloc (vO 0 0 no)) (w.heap.size + 2) (.int .i64 0) (.int .i64 0) (.string no)) := hide (by have h0 := (O3.new ((w.alloc (vO x0 x1 x2)).alloc (vO y0 y1 y2)) (.int .i64 0) (.int .i64 0) (.string no) 30); simp only [World.size_alloc] at h0; exact h0)
  have qcx10 := cell_regrown cx.out.1.1
  have qcx11 := cell_regrown cx.out.1.2.1
  have qcx12 := cell_regrown cx.out.1.2.2
  have qcy10 := cell_regrown cy.out.1.1
  have qcy11 := cell_regrown cy.out.1.2.1
  have qcy12 := cell_regrown cy.out.1.2.2
  have k10 := fun d' os => Calls.regrown_of (HA.out (grow (redrawn (((w.alloc (vO x0 x1 x2)).alloc (vO y0 y1 y2)).alloc (vO 0 0 no)) d') os))
  have k11 := fun d' os => Calls.regrown_of (HB.out (grow (redrawn (((w.alloc (vO x0 x1 x2)).alloc (vO y0 y1 y2)).alloc (vO 0 0 no)) d') os))
  go_wp2_with fail
  refine quiet_tail 4 (by kernel_rfl) (by kernel_rfl) ?_
  simp only [List.take_succ_cons, List.take_zero, List.drop_succ_cons, List.drop_zero]
  repeat (go_big_quiet_step (first | (with_reducible exact k10 _ _) | (with_reducible exact k11 _ _)))
  refine wpQuiet_nil ?_
  intro w1 hw1
  have hb1 : Below ((((w.alloc (vO x0 x1 x2)).alloc (vO y0 y1 y2)).alloc (vO 0 0 no))).heap.size (((w.alloc (vO x0 x1 x2)).alloc (vO y0 y1 y2)).alloc (vO 0 0 no)) w1 := by obtain ⟨⟨dq, osq⟩, hq⟩ := hw1; rw [hq]; exact below_regrown _ dq osq
  clear hw1 qcx10 qcx11 qcx12 qcy10 qcy11 qcy12 k10 k11
  have B1 := hide (next (step (step (step (Below.refl w.heap.size w) (vO x0 x1 x2)) (vO y0 y1 y2)) (vO 0 0 no)) hb1)
  replace cx := hide (cx.out.keep hb1)
  replace cy := hide (cy.out.keep hb1)
  replace cr := hide (cr.out.keep hb1)
  have cxu20 := cx.out.1.1
  have cxu21 := cx.out.1.2.1
  have cxu22 := cx.out.1.2.2
  have cxu2f := cx.out.2
  have Bq1 := hide (below_put3 (b := w.heap.size) (B1.out) (by omega) (.int .i64 a0) (.int .i64 a1) (.string a2))
  replace cx := hide (cx.out.put (.int .i64 a0) (.int .i64 a1) (.string a2))
  replace cy := hide (O3.other (b := w.heap.size) (u0 := .int .i64 a0) (u1 := .int .i64 a1) (u2 := .string a2) cy.out (by omega))
  replace cr := hide (O3.other (b := w.heap.size) (u0 := .int .i64 a0) (u1 := .int .i64 a1) (u2 := .string a2) cr.out (by omega))
  obtain ⟨wq1, hwq1⟩ : ∃ wq1, put3 (w1) (w.heap.size) (.int .i64 a0) (.int .i64 a1) (.string a2) = wq1 := ⟨_, rfl⟩
  rw [hwq1] at Bq1 cx cy cr
  unfold put3 at hwq1
  have cyu40 := cy.out.1.1
  have cyu41 := cy.out.1.2.1
  have cyu42 := cy.out.1.2.2
  have cyu4f := cy.out.2
  have Bq3 := hide (below_put3 (b := w.heap.size + 1) (Bq1.out) (by omega) (.int .i64 b0) (.int .i64 b1) (.string b2))
  replace cx := hide (O3.other (b := w.heap.size + 1) (u0 := .int .i64 b0) (u1 := .int .i64 b1) (u2 := .string b2) cx.out (by omega))
  replace cy := hide (cy.out.put (.int .i64 b0) (.int .i64 b1) (.string b2))
  replace cr := hide (O3.other (b := w.heap.size + 1) (u0 := .int .i64 b0) (u1 := .int .i64 b1) (u2 := .string b2) cr.out (by omega))
  obtain ⟨wq3, hwq3⟩ : ∃ wq3, put3 (wq1) (w.heap.size + 1) (.int .i64 b0) (.int .i64 b1) (.string b2) = wq3 := ⟨_, rfl⟩
  rw [hwq3] at Bq3 cx cy cr
  unfold put3 at hwq3
  have cxu50 := cx.out.1.1
  have cxu51 := cx.out.1.2.1
  have cxu52 := cx.out.1.2.2
  have cyu60 := cy.out.1.1
  have cyu61 := cy.out.1.2.1
  have cyu62 := cy.out.1.2.2
  go_wp2_with fail
  refine (fe2_none _ ⟨a0, a1, a2⟩ ⟨b0, b1, b2⟩ h4 h5).mono ?_
  rintro e w2 ⟨rfl, hb2⟩
  clear cxu20
  clear cxu21
  clear cxu22
  clear cxu2f
  clear cyu40
  clear cyu41
  clear cyu42
  clear cyu4f
  clear cxu50
  clear cxu51
  clear cxu52
  clear cyu60
  clear cyu61
  clear cyu62
  have B2 := hide (next (step (Bq3.out) _) hb2)
  replace cx := hide ((cx.out.alloc _).keep hb2)
  replace cy := hide ((cy.out.alloc _).keep hb2)
  replace cr := hide ((cr.out.alloc _).keep hb2)
  replace cx := hide ((cx.out.alloc (vO 0 0 no)))
  replace cy := hide ((cy.out.alloc (vO 0 0 no)))
  replace cr := hide ((cr.out.alloc (vO 0 0 no)))
  have cxu70 := cx.out.1.1
  have cxu71 := cx.out.1.2.1
  have cxu72 := cx.out.1.2.2
  have cyu80 := cy.out.1.1
  have cyu81 := cy.out.1.2.1
  have cyu82 := cy.out.1.2.2
  go_wp2_with fail
  refine (HO.out _).mono ?_
  rintro e w3 ⟨rfl, hb3⟩
  clear cxu70
  clear cxu71
  clear cxu72
  clear cyu80
  clear cyu81
  clear cyu82
  have B3 := hide (next (step (B2.out) (vO 0 0 no)) hb3)
  replace cx := hide (cx.out.keep hb3)
  replace cy := hide (cy.out.keep hb3)
  replace cr := hide (cr.out.keep hb3)
  have cru100 := cr.out.1.1
  have cru101 := cr.out.1.2.1
  have cru102 := cr.out.1.2.2
  have cru10f := cr.out.2
  have Bq9 := hide (below_put3 (b := w.heap.size + 2) (B3.out) (by omega) (.int .i64 k) (.int .i64 i) (.string t))
  replace cx := hide (O3.other (b := w.heap.size + 2) (u0 := .int .i64 k) (u1 := .int .i64 i) (u2 := .string t) cx.out (by omega))
  replace cy := hide (O3.other (b := w.heap.size + 2) (u0 := .int .i64 k) (u1 := .int .i64 i) (u2 := .string t) cy.out (by omega))
  replace cr := hide (cr.out.put (.int .i64 k) (.int .i64 i) (.string t))
  obtain ⟨wq9, hwq9⟩ : ∃ wq9, put3 (w3) (w.heap.size + 2) (.int .i64 k) (.int .i64 i) (.string t) = wq9 := ⟨_, rfl⟩
  rw [hwq9] at Bq9 cx cy cr
  unfold put3 at hwq9
  have cru110 := cr.out.1.1
  have cru111 := cr.out.1.2.1
  have cru112 := cr.out.1.2.2
  go_wp2_with fail
  refine bodyPost_ret (by simp [results, Tryz.results12, go_sem, cru110, cru111, cru112]; try rfl) rfl ?_
  exact ⟨rfl, Bq9.out⟩
set_option maxHeartbeats 2000000 in
theorem bin_sum3 (x0 x1 : Int) (x2 : ByteArray) (y0 y1 : Int) (y2 : ByteArray) (a0 a1 : Int) (a2 : ByteArray) (b0 b1 : Int) (b2 : ByteArray) (HA : CallIs 25 #[vV x0 x1 x2] (vV a0 a1 a2)) (HB : CallIs 25 #[vV y0 y1 y2] (vV b0 b1 b2)) (h4 : a0 ≠ 4) (h5 : b0 ≠ 4) (k i : Int) (t : ByteArray) (HO : CallIs 27 #[.int .i64 3, vV a0 a1 a2, vV b0 b1 b2] (vV k i t)) : CallIs 12 #[.int .i64 3, vV x0 x1 x2, vV y0 y1 y2] (vV k i t) := by
  intro w
  go_enter Tryz.func12, Tryz.ntmps12
  try simp only [List.append]
  have cx : Hid (O3 (((w.alloc (vO x0 x1 x2)).alloc (vO y0 y1 y2)).alloc (vO 0 0 no)) (w.heap.size) (.int .i64 x0) (.int .i64 x1) (.string x2)) := hide (by have h0 := (((O3.new w (.int .i64 x0) (.int .i64 x1) (.string x2) 30).alloc (vO y0 y1 y2)).alloc (vO 0 0 no)); exact h0)
  have cy : Hid (O3 (((w.alloc (vO x0 x1 x2)).alloc (vO y0 y1 y2)).alloc (vO 0 0 no)) (w.heap.size + 1) (.int .i64 y0) (.int .i64 y1) (.string y2)) := hide (by have h0 := ((O3.new (w.alloc (vO x0 x1 x2)) (.int .i64 y0) (.int .i64 y1) (.string y2) 30).alloc (vO 0 0 no)); simp only [World.size_alloc] at h0; exact h0)
  have cr : Hid (O3 (((w.alloc (vO x0 x1 x2)).alloc (vO y0 y1 y2)).alloc (vO 0 0 no)) (w.heap.size + 2) (.int .i64 0) (.int .i64 0) (.string no)) := hide (by have h0 := (O3.new ((w.alloc (vO x0 x1 x2)).alloc (vO y0 y1 y2)) (.int .i64 0) (.int .i64 0) (.string no) 30); simp only [World.size_alloc] at h0; exact h0)
  have qcx10 := cell_regrown cx.out.1.1
  have qcx11 := cell_regrown cx.out.1.2.1
  have qcx12 := cell_regrown cx.out.1.2.2
  have qcy10 := cell_regrown cy.out.1.1
  have qcy11 := cell_regrown cy.out.1.2.1
  have qcy12 := cell_regrown cy.out.1.2.2
  have k10 := fun d' os => Calls.regrown_of (HA.out (grow (redrawn (((w.alloc (vO x0 x1 x2)).alloc (vO y0 y1 y2)).alloc (vO 0 0 no)) d') os))
  have k11 := fun d' os => Calls.regrown_of (HB.out (grow (redrawn (((w.alloc (vO x0 x1 x2)).alloc (vO y0 y1 y2)).alloc (vO 0 0 no)) d') os))
  go_wp2_with fail
  refine quiet_tail 4 (by kernel_rfl) (by kernel_rfl) ?_
  simp only [List.take_succ_cons, List.take_zero, List.drop_succ_cons, List.drop_zero]
  repeat (go_big_quiet_step (first | (with_reducible exact k10 _ _) | (with_reducible exact k11 _ _)))
  refine wpQuiet_nil ?_
  intro w1 hw1
  have hb1 : Below ((((w.alloc (vO x0 x1 x2)).alloc (vO y0 y1 y2)).alloc (vO 0 0 no))).heap.size (((w.alloc (vO x0 x1 x2)).alloc (vO y0 y1 y2)).alloc (vO 0 0 no)) w1 := by obtain ⟨⟨dq, osq⟩, hq⟩ := hw1; rw [hq]; exact below_regrown _ dq osq
  clear hw1 qcx10 qcx11 qcx12 qcy10 qcy11 qcy12 k10 k11
  have B1 := hide (next (step (step (step (Below.refl w.heap.size w) (vO x0 x1 x2)) (vO y0 y1 y2)) (vO 0 0 no)) hb1)
  replace cx := hide (cx.out.keep hb1)
  replace cy := hide (cy.out.keep hb1)
  replace cr := hide (cr.out.keep hb1)
  have cxu20 := cx.out.1.1
  have cxu21 := cx.out.1.2.1
  have cxu22 := cx.out.1.2.2
  have cxu2f := cx.out.2
  have Bq1 := hide (below_put3 (b := w.heap.size) (B1.out) (by omega) (.int .i64 a0) (.int .i64 a1) (.string a2))
  replace cx := hide (cx.out.put (.int .i64 a0) (.int .i64 a1) (.string a2))
  replace cy := hide (O3.other (b := w.heap.size) (u0 := .int .i64 a0) (u1 := .int .i64 a1) (u2 := .string a2) cy.out (by omega))
  replace cr := hide (O3.other (b := w.heap.size) (u0 := .int .i64 a0) (u1 := .int .i64 a1) (u2 := .string a2) cr.out (by omega))
  obtain ⟨wq1, hwq1⟩ : ∃ wq1, put3 (w1) (w.heap.size) (.int .i64 a0) (.int .i64 a1) (.string a2) = wq1 := ⟨_, rfl⟩
  rw [hwq1] at Bq1 cx cy cr
  unfold put3 at hwq1
  have cyu40 := cy.out.1.1
  have cyu41 := cy.out.1.2.1
  have cyu42 := cy.out.1.2.2
  have cyu4f := cy.out.2
  have Bq3 := hide (below_put3 (b := w.heap.size + 1) (Bq1.out) (by omega) (.int .i64 b0) (.int .i64 b1) (.string b2))
  replace cx := hide (O3.other (b := w.heap.size + 1) (u0 := .int .i64 b0) (u1 := .int .i64 b1) (u2 := .string b2) cx.out (by omega))
  replace cy := hide (cy.out.put (.int .i64 b0) (.int .i64 b1) (.string b2))
  replace cr := hide (O3.other (b := w.heap.size + 1) (u0 := .int .i64 b0) (u1 := .int .i64 b1) (u2 := .string b2) cr.out (by omega))
  obtain ⟨wq3, hwq3⟩ : ∃ wq3, put3 (wq1) (w.heap.size + 1) (.int .i64 b0) (.int .i64 b1) (.string b2) = wq3 := ⟨_, rfl⟩
  rw [hwq3] at Bq3 cx cy cr
  unfold put3 at hwq3
  have cxu50 := cx.out.1.1
  have cxu51 := cx.out.1.2.1
  have cxu52 := cx.out.1.2.2
  have cyu60 := cy.out.1.1
  have cyu61 := cy.out.1.2.1
  have cyu62 := cy.out.1.2.2
  go_wp2_with fail
  refine (fe2_none _ ⟨a0, a1, a2⟩ ⟨b0, b1, b2⟩ h4 h5).mono ?_
  rintro e w2 ⟨rfl, hb2⟩
  clear cxu20
  clear cxu21
  clear cxu22
  clear cxu2f
  clear cyu40
  clear cyu41
  clear cyu42
  clear cyu4f
  clear cxu50
  clear cxu51
  clear cxu52
  clear cyu60
  clear cyu61
  clear cyu62
  have B2 := hide (next (step (Bq3.out) _) hb2)
  replace cx := hide ((cx.out.alloc _).keep hb2)
  replace cy := hide ((cy.out.alloc _).keep hb2)
  replace cr := hide ((cr.out.alloc _).keep hb2)
  replace cx := hide ((cx.out.alloc (vO 0 0 no)))
  replace cy := hide ((cy.out.alloc (vO 0 0 no)))
  replace cr := hide ((cr.out.alloc (vO 0 0 no)))
  have cxu70 := cx.out.1.1
  have cxu71 := cx.out.1.2.1
  have cxu72 := cx.out.1.2.2
  have cyu80 := cy.out.1.1
  have cyu81 := cy.out.1.2.1
  have cyu82 := cy.out.1.2.2
  go_wp2_with fail
  refine (HO.out _).mono ?_
  rintro e w3 ⟨rfl, hb3⟩
  clear cxu70
  clear cxu71
  clear cxu72
  clear cyu80
  clear cyu81
  clear cyu82
  have B3 := hide (next (step (B2.out) (vO 0 0 no)) hb3)
  replace cx := hide (cx.out.keep hb3)
  replace cy := hide (cy.out.keep hb3)
  replace cr := hide (cr.out.keep hb3)
  have cru100 := cr.out.1.1
  have cru101 := cr.out.1.2.1
  have cru102 := cr.out.1.2.2
  have cru10f := cr.out.2
  have Bq9 := hide (below_put3 (b := w.heap.size + 2) (B3.out) (by omega) (.int .i64 k) (.int .i64 i) (.string t))
  replace cx := hide (O3.other (b := w.heap.size + 2) (u0 := .int .i64 k) (u1 := .int .i64 i) (u2 := .string t) cx.out (by omega))
  replace cy := hide (O3.other (b := w.heap.size + 2) (u0 := .int .i64 k) (u1 := .int .i64 i) (u2 := .string t) cy.out (by omega))
  replace cr := hide (cr.out.put (.int .i64 k) (.int .i64 i) (.string t))
  obtain ⟨wq9, hwq9⟩ : ∃ wq9, put3 (w3) (w.heap.size + 2) (.int .i64 k) (.int .i64 i) (.string t) = wq9 := ⟨_, rfl⟩
  rw [hwq9] at Bq9 cx cy cr
  unfold put3 at hwq9
  have cru110 := cr.out.1.1
  have cru111 := cr.out.1.2.1
  have cru112 := cr.out.1.2.2
  go_wp2_with fail
  refine bodyPost_ret (by simp [results, Tryz.results12, go_sem, cru110, cru111, cru112]; try rfl) rfl ?_
  exact ⟨rfl, Bq9.out⟩
set_option maxHeartbeats 2000000 in
theorem bin_sum4 (x0 x1 : Int) (x2 : ByteArray) (y0 y1 : Int) (y2 : ByteArray) (a0 a1 : Int) (a2 : ByteArray) (b0 b1 : Int) (b2 : ByteArray) (HA : CallIs 25 #[vV x0 x1 x2] (vV a0 a1 a2)) (HB : CallIs 25 #[vV y0 y1 y2] (vV b0 b1 b2)) (h4 : a0 ≠ 4) (h5 : b0 ≠ 4) (k i : Int) (t : ByteArray) (HO : CallIs 27 #[.int .i64 4, vV a0 a1 a2, vV b0 b1 b2] (vV k i t)) : CallIs 12 #[.int .i64 4, vV x0 x1 x2, vV y0 y1 y2] (vV k i t) := by
  intro w
  go_enter Tryz.func12, Tryz.ntmps12
  try simp only [List.append]
  have cx : Hid (O3 (((w.alloc (vO x0 x1 x2)).alloc (vO y0 y1 y2)).alloc (vO 0 0 no)) (w.heap.size) (.int .i64 x0) (.int .i64 x1) (.string x2)) := hide (by have h0 := (((O3.new w (.int .i64 x0) (.int .i64 x1) (.string x2) 30).alloc (vO y0 y1 y2)).alloc (vO 0 0 no)); exact h0)
  have cy : Hid (O3 (((w.alloc (vO x0 x1 x2)).alloc (vO y0 y1 y2)).alloc (vO 0 0 no)) (w.heap.size + 1) (.int .i64 y0) (.int .i64 y1) (.string y2)) := hide (by have h0 := ((O3.new (w.alloc (vO x0 x1 x2)) (.int .i64 y0) (.int .i64 y1) (.string y2) 30).alloc (vO 0 0 no)); simp only [World.size_alloc] at h0; exact h0)
  have cr : Hid (O3 (((w.alloc (vO x0 x1 x2)).alloc (vO y0 y1 y2)).alloc (vO 0 0 no)) (w.heap.size + 2) (.int .i64 0) (.int .i64 0) (.string no)) := hide (by have h0 := (O3.new ((w.alloc (vO x0 x1 x2)).alloc (vO y0 y1 y2)) (.int .i64 0) (.int .i64 0) (.string no) 30); simp only [World.size_alloc] at h0; exact h0)
  have qcx10 := cell_regrown cx.out.1.1
  have qcx11 := cell_regrown cx.out.1.2.1
  have qcx12 := cell_regrown cx.out.1.2.2
  have qcy10 := cell_regrown cy.out.1.1
  have qcy11 := cell_regrown cy.out.1.2.1
  have qcy12 := cell_regrown cy.out.1.2.2
  have k10 := fun d' os => Calls.regrown_of (HA.out (grow (redrawn (((w.alloc (vO x0 x1 x2)).alloc (vO y0 y1 y2)).alloc (vO 0 0 no)) d') os))
  have k11 := fun d' os => Calls.regrown_of (HB.out (grow (redrawn (((w.alloc (vO x0 x1 x2)).alloc (vO y0 y1 y2)).alloc (vO 0 0 no)) d') os))
  go_wp2_with fail
  refine quiet_tail 4 (by kernel_rfl) (by kernel_rfl) ?_
  simp only [List.take_succ_cons, List.take_zero, List.drop_succ_cons, List.drop_zero]
  repeat (go_big_quiet_step (first | (with_reducible exact k10 _ _) | (with_reducible exact k11 _ _)))
  refine wpQuiet_nil ?_
  intro w1 hw1
  have hb1 : Below ((((w.alloc (vO x0 x1 x2)).alloc (vO y0 y1 y2)).alloc (vO 0 0 no))).heap.size (((w.alloc (vO x0 x1 x2)).alloc (vO y0 y1 y2)).alloc (vO 0 0 no)) w1 := by obtain ⟨⟨dq, osq⟩, hq⟩ := hw1; rw [hq]; exact below_regrown _ dq osq
  clear hw1 qcx10 qcx11 qcx12 qcy10 qcy11 qcy12 k10 k11
  have B1 := hide (next (step (step (step (Below.refl w.heap.size w) (vO x0 x1 x2)) (vO y0 y1 y2)) (vO 0 0 no)) hb1)
  replace cx := hide (cx.out.keep hb1)
  replace cy := hide (cy.out.keep hb1)
  replace cr := hide (cr.out.keep hb1)
  have cxu20 := cx.out.1.1
  have cxu21 := cx.out.1.2.1
  have cxu22 := cx.out.1.2.2
  have cxu2f := cx.out.2
  have Bq1 := hide (below_put3 (b := w.heap.size) (B1.out) (by omega) (.int .i64 a0) (.int .i64 a1) (.string a2))
  replace cx := hide (cx.out.put (.int .i64 a0) (.int .i64 a1) (.string a2))
  replace cy := hide (O3.other (b := w.heap.size) (u0 := .int .i64 a0) (u1 := .int .i64 a1) (u2 := .string a2) cy.out (by omega))
  replace cr := hide (O3.other (b := w.heap.size) (u0 := .int .i64 a0) (u1 := .int .i64 a1) (u2 := .string a2) cr.out (by omega))
  obtain ⟨wq1, hwq1⟩ : ∃ wq1, put3 (w1) (w.heap.size) (.int .i64 a0) (.int .i64 a1) (.string a2) = wq1 := ⟨_, rfl⟩
  rw [hwq1] at Bq1 cx cy cr
  unfold put3 at hwq1
  have cyu40 := cy.out.1.1
  have cyu41 := cy.out.1.2.1
  have cyu42 := cy.out.1.2.2
  have cyu4f := cy.out.2
  have Bq3 := hide (below_put3 (b := w.heap.size + 1) (Bq1.out) (by omega) (.int .i64 b0) (.int .i64 b1) (.string b2))
  replace cx := hide (O3.other (b := w.heap.size + 1) (u0 := .int .i64 b0) (u1 := .int .i64 b1) (u2 := .string b2) cx.out (by omega))
  replace cy := hide (cy.out.put (.int .i64 b0) (.int .i64 b1) (.string b2))
  replace cr := hide (O3.other (b := w.heap.size + 1) (u0 := .int .i64 b0) (u1 := .int .i64 b1) (u2 := .string b2) cr.out (by omega))
  obtain ⟨wq3, hwq3⟩ : ∃ wq3, put3 (wq1) (w.heap.size + 1) (.int .i64 b0) (.int .i64 b1) (.string b2) = wq3 := ⟨_, rfl⟩
  rw [hwq3] at Bq3 cx cy cr
  unfold put3 at hwq3
  have cxu50 := cx.out.1.1
  have cxu51 := cx.out.1.2.1
  have cxu52 := cx.out.1.2.2
  have cyu60 := cy.out.1.1
  have cyu61 := cy.out.1.2.1
  have cyu62 := cy.out.1.2.2
  go_wp2_with fail
  refine (fe2_none _ ⟨a0, a1, a2⟩ ⟨b0, b1, b2⟩ h4 h5).mono ?_
  rintro e w2 ⟨rfl, hb2⟩
  clear cxu20
  clear cxu21
  clear cxu22
  clear cxu2f
  clear cyu40
  clear cyu41
  clear cyu42
  clear cyu4f
  clear cxu50
  clear cxu51
  clear cxu52
  clear cyu60
  clear cyu61
  clear cyu62
  have B2 := hide (next (step (Bq3.out) _) hb2)
  replace cx := hide ((cx.out.alloc _).keep hb2)
  replace cy := hide ((cy.out.alloc _).keep hb2)
  replace cr := hide ((cr.out.alloc _).keep hb2)
  replace cx := hide ((cx.out.alloc (vO 0 0 no)))
  replace cy := hide ((cy.out.alloc (vO 0 0 no)))
  replace cr := hide ((cr.out.alloc (vO 0 0 no)))
  have cxu70 := cx.out.1.1
  have cxu71 := cx.out.1.2.1
  have cxu72 := cx.out.1.2.2
  have cyu80 := cy.out.1.1
  have cyu81 := cy.out.1.2.1
  have cyu82 := cy.out.1.2.2
  go_wp2_with fail
  refine (HO.out _).mono ?_
  rintro e w3 ⟨rfl, hb3⟩
  clear cxu70
  clear cxu71
  clear cxu72
  clear cyu80
  clear cyu81
  clear cyu82
  have B3 := hide (next (step (B2.out) (vO 0 0 no)) hb3)
  replace cx := hide (cx.out.keep hb3)
  replace cy := hide (cy.out.keep hb3)
  replace cr := hide (cr.out.keep hb3)
  have cru100 := cr.out.1.1
  have cru101 := cr.out.1.2.1
  have cru102 := cr.out.1.2.2
  have cru10f := cr.out.2
  have Bq9 := hide (below_put3 (b := w.heap.size + 2) (B3.out) (by omega) (.int .i64 k) (.int .i64 i) (.string t))
  replace cx := hide (O3.other (b := w.heap.size + 2) (u0 := .int .i64 k) (u1 := .int .i64 i) (u2 := .string t) cx.out (by omega))
  replace cy := hide (O3.other (b := w.heap.size + 2) (u0 := .int .i64 k) (u1 := .int .i64 i) (u2 := .string t) cy.out (by omega))
  replace cr := hide (cr.out.put (.int .i64 k) (.int .i64 i) (.string t))
  obtain ⟨wq9, hwq9⟩ : ∃ wq9, put3 (w3) (w.heap.size + 2) (.int .i64 k) (.int .i64 i) (.string t) = wq9 := ⟨_, rfl⟩
  rw [hwq9] at Bq9 cx cy cr
  unfold put3 at hwq9
  have cru110 := cr.out.1.1
  have cru111 := cr.out.1.2.1
  have cru112 := cr.out.1.2.2
  go_wp2_with fail
  refine bodyPost_ret (by simp [results, Tryz.results12, go_sem, cru110, cru111, cru112]; try rfl) rfl ?_
  exact ⟨rfl, Bq9.out⟩
set_option maxHeartbeats 2000000 in
theorem bin_sum5 (x0 x1 : Int) (x2 : ByteArray) (y0 y1 : Int) (y2 : ByteArray) (a0 a1 : Int) (a2 : ByteArray) (b0 b1 : Int) (b2 : ByteArray) (HA : CallIs 25 #[vV x0 x1 x2] (vV a0 a1 a2)) (HB : CallIs 25 #[vV y0 y1 y2] (vV b0 b1 b2)) (h4 : a0 ≠ 4) (h5 : b0 ≠ 4) (k i : Int) (t : ByteArray) (HO : CallIs 27 #[.int .i64 5, vV a0 a1 a2, vV b0 b1 b2] (vV k i t)) : CallIs 12 #[.int .i64 5, vV x0 x1 x2, vV y0 y1 y2] (vV k i t) := by
  intro w
  go_enter Tryz.func12, Tryz.ntmps12
  try simp only [List.append]
  have cx : Hid (O3 (((w.alloc (vO x0 x1 x2)).alloc (vO y0 y1 y2)).alloc (vO 0 0 no)) (w.heap.size) (.int .i64 x0) (.int .i64 x1) (.string x2)) := hide (by have h0 := (((O3.new w (.int .i64 x0) (.int .i64 x1) (.string x2) 30).alloc (vO y0 y1 y2)).alloc (vO 0 0 no)); exact h0)
  have cy : Hid (O3 (((w.alloc (vO x0 x1 x2)).alloc (vO y0 y1 y2)).alloc (vO 0 0 no)) (w.heap.size + 1) (.int .i64 y0) (.int .i64 y1) (.string y2)) := hide (by have h0 := ((O3.new (w.alloc (vO x0 x1 x2)) (.int .i64 y0) (.int .i64 y1) (.string y2) 30).alloc (vO 0 0 no)); simp only [World.size_alloc] at h0; exact h0)
  have cr : Hid (O3 (((w.alloc (vO x0 x1 x2)).alloc (vO y0 y1 y2)).alloc (vO 0 0 no)) (w.heap.size + 2) (.int .i64 0) (.int .i64 0) (.string no)) := hide (by have h0 := (O3.new ((w.alloc (vO x0 x1 x2)).alloc (vO y0 y1 y2)) (.int .i64 0) (.int .i64 0) (.string no) 30); simp only [World.size_alloc] at h0; exact h0)
  have qcx10 := cell_regrown cx.out.1.1
  have qcx11 := cell_regrown cx.out.1.2.1
  have qcx12 := cell_regrown cx.out.1.2.2
  have qcy10 := cell_regrown cy.out.1.1
  have qcy11 := cell_regrown cy.out.1.2.1
  have qcy12 := cell_regrown cy.out.1.2.2
  have k10 := fun d' os => Calls.regrown_of (HA.out (grow (redrawn (((w.alloc (vO x0 x1 x2)).alloc (vO y0 y1 y2)).alloc (vO 0 0 no)) d') os))
  have k11 := fun d' os => Calls.regrown_of (HB.out (grow (redrawn (((w.alloc (vO x0 x1 x2)).alloc (vO y0 y1 y2)).alloc (vO 0 0 no)) d') os))
  go_wp2_with fail
  refine quiet_tail 4 (by kernel_rfl) (by kernel_rfl) ?_
  simp only [List.take_succ_cons, List.take_zero, List.drop_succ_cons, List.drop_zero]
  repeat (go_big_quiet_step (first | (with_reducible exact k10 _ _) | (with_reducible exact k11 _ _)))
  refine wpQuiet_nil ?_
  intro w1 hw1
  have hb1 : Below ((((w.alloc (vO x0 x1 x2)).alloc (vO y0 y1 y2)).alloc (vO 0 0 no))).heap.size (((w.alloc (vO x0 x1 x2)).alloc (vO y0 y1 y2)).alloc (vO 0 0 no)) w1 := by obtain ⟨⟨dq, osq⟩, hq⟩ := hw1; rw [hq]; exact below_regrown _ dq osq
  clear hw1 qcx10 qcx11 qcx12 qcy10 qcy11 qcy12 k10 k11
  have B1 := hide (next (step (step (step (Below.refl w.heap.size w) (vO x0 x1 x2)) (vO y0 y1 y2)) (vO 0 0 no)) hb1)
  replace cx := hide (cx.out.keep hb1)
  replace cy := hide (cy.out.keep hb1)
  replace cr := hide (cr.out.keep hb1)
  have cxu20 := cx.out.1.1
  have cxu21 := cx.out.1.2.1
  have cxu22 := cx.out.1.2.2
  have cxu2f := cx.out.2
  have Bq1 := hide (below_put3 (b := w.heap.size) (B1.out) (by omega) (.int .i64 a0) (.int .i64 a1) (.string a2))
  replace cx := hide (cx.out.put (.int .i64 a0) (.int .i64 a1) (.string a2))
  replace cy := hide (O3.other (b := w.heap.size) (u0 := .int .i64 a0) (u1 := .int .i64 a1) (u2 := .string a2) cy.out (by omega))
  replace cr := hide (O3.other (b := w.heap.size) (u0 := .int .i64 a0) (u1 := .int .i64 a1) (u2 := .string a2) cr.out (by omega))
  obtain ⟨wq1, hwq1⟩ : ∃ wq1, put3 (w1) (w.heap.size) (.int .i64 a0) (.int .i64 a1) (.string a2) = wq1 := ⟨_, rfl⟩
  rw [hwq1] at Bq1 cx cy cr
  unfold put3 at hwq1
  have cyu40 := cy.out.1.1
  have cyu41 := cy.out.1.2.1
  have cyu42 := cy.out.1.2.2
  have cyu4f := cy.out.2
  have Bq3 := hide (below_put3 (b := w.heap.size + 1) (Bq1.out) (by omega) (.int .i64 b0) (.int .i64 b1) (.string b2))
  replace cx := hide (O3.other (b := w.heap.size + 1) (u0 := .int .i64 b0) (u1 := .int .i64 b1) (u2 := .string b2) cx.out (by omega))
  replace cy := hide (cy.out.put (.int .i64 b0) (.int .i64 b1) (.string b2))
  replace cr := hide (O3.other (b := w.heap.size + 1) (u0 := .int .i64 b0) (u1 := .int .i64 b1) (u2 := .string b2) cr.out (by omega))
  obtain ⟨wq3, hwq3⟩ : ∃ wq3, put3 (wq1) (w.heap.size + 1) (.int .i64 b0) (.int .i64 b1) (.string b2) = wq3 := ⟨_, rfl⟩
  rw [hwq3] at Bq3 cx cy cr
  unfold put3 at hwq3
  have cxu50 := cx.out.1.1
  have cxu51 := cx.out.1.2.1
  have cxu52 := cx.out.1.2.2
  have cyu60 := cy.out.1.1
  have cyu61 := cy.out.1.2.1
  have cyu62 := cy.out.1.2.2
  go_wp2_with fail
  refine (fe2_none _ ⟨a0, a1, a2⟩ ⟨b0, b1, b2⟩ h4 h5).mono ?_
  rintro e w2 ⟨rfl, hb2⟩
  clear cxu20
  clear cxu21
  clear cxu22
  clear cxu2f
  clear cyu40
  clear cyu41
  clear cyu42
  clear cyu4f
  clear cxu50
  clear cxu51
  clear cxu52
  clear cyu60
  clear cyu61
  clear cyu62
  have B2 := hide (next (step (Bq3.out) _) hb2)
  replace cx := hide ((cx.out.alloc _).keep hb2)
  replace cy := hide ((cy.out.alloc _).keep hb2)
  replace cr := hide ((cr.out.alloc _).keep hb2)
  replace cx := hide ((cx.out.alloc (vO 0 0 no)))
  replace cy := hide ((cy.out.alloc (vO 0 0 no)))
  replace cr := hide ((cr.out.alloc (vO 0 0 no)))
  have cxu70 := cx.out.1.1
  have cxu71 := cx.out.1.2.1
  have cxu72 := cx.out.1.2.2
  have cyu80 := cy.out.1.1
  have cyu81 := cy.out.1.2.1
  have cyu82 := cy.out.1.2.2
  go_wp2_with fail
  refine (HO.out _).mono ?_
  rintro e w3 ⟨rfl, hb3⟩
  clear cxu70
  clear cxu71
  clear cxu72
  clear cyu80
  clear cyu81
  clear cyu82
  have B3 := hide (next (step (B2.out) (vO 0 0 no)) hb3)
  replace cx := hide (cx.out.keep hb3)
  replace cy := hide (cy.out.keep hb3)
  replace cr := hide (cr.out.keep hb3)
  have cru100 := cr.out.1.1
  have cru101 := cr.out.1.2.1
  have cru102 := cr.out.1.2.2
  have cru10f := cr.out.2
  have Bq9 := hide (below_put3 (b := w.heap.size + 2) (B3.out) (by omega) (.int .i64 k) (.int .i64 i) (.string t))
  replace cx := hide (O3.other (b := w.heap.size + 2) (u0 := .int .i64 k) (u1 := .int .i64 i) (u2 := .string t) cx.out (by omega))
  replace cy := hide (O3.other (b := w.heap.size + 2) (u0 := .int .i64 k) (u1 := .int .i64 i) (u2 := .string t) cy.out (by omega))
  replace cr := hide (cr.out.put (.int .i64 k) (.int .i64 i) (.string t))
  obtain ⟨wq9, hwq9⟩ : ∃ wq9, put3 (w3) (w.heap.size + 2) (.int .i64 k) (.int .i64 i) (.string t) = wq9 := ⟨_, rfl⟩
  rw [hwq9] at Bq9 cx cy cr
  unfold put3 at hwq9
  have cru110 := cr.out.1.1
  have cru111 := cr.out.1.2.1
  have cru112 := cr.out.1.2.2
  go_wp2_with fail
  refine bodyPost_ret (by simp [results, Tryz.results12, go_sem, cru110, cru111, cru112]; try rfl) rfl ?_
  exact ⟨rfl, Bq9.out⟩
set_option maxHeartbeats 2000000 in
theorem bin_join (x0 x1 : Int) (x2 : ByteArray) (y0 y1 : Int) (y2 : ByteArray) (a0 a1 : Int) (a2 : ByteArray) (b0 b1 : Int) (b2 : ByteArray) (HA : CallIs 25 #[vV x0 x1 x2] (vV a0 a1 a2)) (HB : CallIs 25 #[vV y0 y1 y2] (vV b0 b1 b2)) (h4 : a0 ≠ 4) (h5 : b0 ≠ 4) (k i : Int) (t : ByteArray) (HO : CallT 28 #[vV a0 a1 a2, vV b0 b1 b2] (vV k i t)) : CallT 12 #[.int .i64 6, vV x0 x1 x2, vV y0 y1 y2] (vV k i t) := by
  intro w ht
  have HT := hide ht
  clear ht
  go_enter Tryz.func12, Tryz.ntmps12
  try simp only [List.append]
  have cx : Hid (O3 (((w.alloc (vO x0 x1 x2)).alloc (vO y0 y1 y2)).alloc (vO 0 0 no)) (w.heap.size) (.int .i64 x0) (.int .i64 x1) (.string x2)) := hide (by have h0 := (((O3.new w (.int .i64 x0) (.int .i64 x1) (.string x2) 30).alloc (vO y0 y1 y2)).alloc (vO 0 0 no)); exact h0)
  have cy : Hid (O3 (((w.alloc (vO x0 x1 x2)).alloc (vO y0 y1 y2)).alloc (vO 0 0 no)) (w.heap.size + 1) (.int .i64 y0) (.int .i64 y1) (.string y2)) := hide (by have h0 := ((O3.new (w.alloc (vO x0 x1 x2)) (.int .i64 y0) (.int .i64 y1) (.string y2) 30).alloc (vO 0 0 no)); simp only [World.size_alloc] at h0; exact h0)
  have cr : Hid (O3 (((w.alloc (vO x0 x1 x2)).alloc (vO y0 y1 y2)).alloc (vO 0 0 no)) (w.heap.size + 2) (.int .i64 0) (.int .i64 0) (.string no)) := hide (by have h0 := (O3.new ((w.alloc (vO x0 x1 x2)).alloc (vO y0 y1 y2)) (.int .i64 0) (.int .i64 0) (.string no) 30); simp only [World.size_alloc] at h0; exact h0)
  have qcx10 := cell_regrown cx.out.1.1
  have qcx11 := cell_regrown cx.out.1.2.1
  have qcx12 := cell_regrown cx.out.1.2.2
  have qcy10 := cell_regrown cy.out.1.1
  have qcy11 := cell_regrown cy.out.1.2.1
  have qcy12 := cell_regrown cy.out.1.2.2
  have k10 := fun d' os => Calls.regrown_of (HA.out (grow (redrawn (((w.alloc (vO x0 x1 x2)).alloc (vO y0 y1 y2)).alloc (vO 0 0 no)) d') os))
  have k11 := fun d' os => Calls.regrown_of (HB.out (grow (redrawn (((w.alloc (vO x0 x1 x2)).alloc (vO y0 y1 y2)).alloc (vO 0 0 no)) d') os))
  go_wp2_with fail
  refine quiet_tail 4 (by kernel_rfl) (by kernel_rfl) ?_
  simp only [List.take_succ_cons, List.take_zero, List.drop_succ_cons, List.drop_zero]
  repeat (go_big_quiet_step (first | (with_reducible exact k10 _ _) | (with_reducible exact k11 _ _)))
  refine wpQuiet_nil ?_
  intro w1 hw1
  have hb1 : Below ((((w.alloc (vO x0 x1 x2)).alloc (vO y0 y1 y2)).alloc (vO 0 0 no))).heap.size (((w.alloc (vO x0 x1 x2)).alloc (vO y0 y1 y2)).alloc (vO 0 0 no)) w1 := by obtain ⟨⟨dq, osq⟩, hq⟩ := hw1; rw [hq]; exact below_regrown _ dq osq
  clear hw1 qcx10 qcx11 qcx12 qcy10 qcy11 qcy12 k10 k11
  have B1 := hide (next (step (step (step (Below.refl w.heap.size w) (vO x0 x1 x2)) (vO y0 y1 y2)) (vO 0 0 no)) hb1)
  replace cx := hide (cx.out.keep hb1)
  replace cy := hide (cy.out.keep hb1)
  replace cr := hide (cr.out.keep hb1)
  have cxu20 := cx.out.1.1
  have cxu21 := cx.out.1.2.1
  have cxu22 := cx.out.1.2.2
  have cxu2f := cx.out.2
  have Bq1 := hide (below_put3 (b := w.heap.size) (B1.out) (by omega) (.int .i64 a0) (.int .i64 a1) (.string a2))
  replace cx := hide (cx.out.put (.int .i64 a0) (.int .i64 a1) (.string a2))
  replace cy := hide (O3.other (b := w.heap.size) (u0 := .int .i64 a0) (u1 := .int .i64 a1) (u2 := .string a2) cy.out (by omega))
  replace cr := hide (O3.other (b := w.heap.size) (u0 := .int .i64 a0) (u1 := .int .i64 a1) (u2 := .string a2) cr.out (by omega))
  obtain ⟨wq1, hwq1⟩ : ∃ wq1, put3 (w1) (w.heap.size) (.int .i64 a0) (.int .i64 a1) (.string a2) = wq1 := ⟨_, rfl⟩
  rw [hwq1] at Bq1 cx cy cr
  unfold put3 at hwq1
  have cyu40 := cy.out.1.1
  have cyu41 := cy.out.1.2.1
  have cyu42 := cy.out.1.2.2
  have cyu4f := cy.out.2
  have Bq3 := hide (below_put3 (b := w.heap.size + 1) (Bq1.out) (by omega) (.int .i64 b0) (.int .i64 b1) (.string b2))
  replace cx := hide (O3.other (b := w.heap.size + 1) (u0 := .int .i64 b0) (u1 := .int .i64 b1) (u2 := .string b2) cx.out (by omega))
  replace cy := hide (cy.out.put (.int .i64 b0) (.int .i64 b1) (.string b2))
  replace cr := hide (O3.other (b := w.heap.size + 1) (u0 := .int .i64 b0) (u1 := .int .i64 b1) (u2 := .string b2) cr.out (by omega))
  obtain ⟨wq3, hwq3⟩ : ∃ wq3, put3 (wq1) (w.heap.size + 1) (.int .i64 b0) (.int .i64 b1) (.string b2) = wq3 := ⟨_, rfl⟩
  rw [hwq3] at Bq3 cx cy cr
  unfold put3 at hwq3
  have cxu50 := cx.out.1.1
  have cxu51 := cx.out.1.2.1
  have cxu52 := cx.out.1.2.2
  have cyu60 := cy.out.1.1
  have cyu61 := cy.out.1.2.1
  have cyu62 := cy.out.1.2.2
  go_wp2_with fail
  refine (fe2_none _ ⟨a0, a1, a2⟩ ⟨b0, b1, b2⟩ h4 h5).mono ?_
  rintro e w2 ⟨rfl, hb2⟩
  clear cxu20
  clear cxu21
  clear cxu22
  clear cxu2f
  clear cyu40
  clear cyu41
  clear cyu42
  clear cyu4f
  clear cxu50
  clear cxu51
  clear cxu52
  clear cyu60
  clear cyu61
  clear cyu62
  have B2 := hide (next (step (Bq3.out) _) hb2)
  replace cx := hide ((cx.out.alloc _).keep hb2)
  replace cy := hide ((cy.out.alloc _).keep hb2)
  replace cr := hide ((cr.out.alloc _).keep hb2)
  replace cx := hide ((cx.out.alloc (vO 0 0 no)))
  replace cy := hide ((cy.out.alloc (vO 0 0 no)))
  replace cr := hide ((cr.out.alloc (vO 0 0 no)))
  have cxu70 := cx.out.1.1
  have cxu71 := cx.out.1.2.1
  have cxu72 := cx.out.1.2.2
  have cyu80 := cy.out.1.1
  have cyu81 := cy.out.1.2.1
  have cyu82 := cy.out.1.2.2
  go_wp2_with fail
  refine (HO.out _ (tab_below HT.out (step (B2.out) (vO 0 0 no)))).mono ?_
  rintro e w3 ⟨rfl, hb3⟩
  clear cxu70
  clear cxu71
  clear cxu72
  clear cyu80
  clear cyu81
  clear cyu82
  have B3 := hide (next (step (B2.out) (vO 0 0 no)) hb3)
  replace cx := hide (cx.out.keep hb3)
  replace cy := hide (cy.out.keep hb3)
  replace cr := hide (cr.out.keep hb3)
  have cru100 := cr.out.1.1
  have cru101 := cr.out.1.2.1
  have cru102 := cr.out.1.2.2
  have cru10f := cr.out.2
  have Bq9 := hide (below_put3 (b := w.heap.size + 2) (B3.out) (by omega) (.int .i64 k) (.int .i64 i) (.string t))
  replace cx := hide (O3.other (b := w.heap.size + 2) (u0 := .int .i64 k) (u1 := .int .i64 i) (u2 := .string t) cx.out (by omega))
  replace cy := hide (O3.other (b := w.heap.size + 2) (u0 := .int .i64 k) (u1 := .int .i64 i) (u2 := .string t) cy.out (by omega))
  replace cr := hide (cr.out.put (.int .i64 k) (.int .i64 i) (.string t))
  obtain ⟨wq9, hwq9⟩ : ∃ wq9, put3 (w3) (w.heap.size + 2) (.int .i64 k) (.int .i64 i) (.string t) = wq9 := ⟨_, rfl⟩
  rw [hwq9] at Bq9 cx cy cr
  unfold put3 at hwq9
  have cru110 := cr.out.1.1
  have cru111 := cr.out.1.2.1
  have cru112 := cr.out.1.2.2
  go_wp2_with fail
  refine bodyPost_ret (by simp [results, Tryz.results12, go_sem, cru110, cru111, cru112]; try rfl) rfl ?_
  exact ⟨rfl, Bq9.out⟩
set_option maxHeartbeats 2000000 in
theorem bin_cmp7 (x0 x1 : Int) (x2 : ByteArray) (y0 y1 : Int) (y2 : ByteArray) (a0 a1 : Int) (a2 : ByteArray) (b0 b1 : Int) (b2 : ByteArray) (HA : CallIs 25 #[vV x0 x1 x2] (vV a0 a1 a2)) (HB : CallIs 25 #[vV y0 y1 y2] (vV b0 b1 b2)) (h4 : a0 ≠ 4) (h5 : b0 ≠ 4) (c i : Int) (b : Bool) (HO : CallIs 31 #[vV a0 a1 a2, vV b0 b1 b2] (.int .i64 c)) (HH : CallIs 30 #[.int .i64 7, .int .i64 c] (.bool b)) (HT : CallIs 29 #[.bool b] (vV 2 i no)) : CallIs 12 #[.int .i64 7, vV x0 x1 x2, vV y0 y1 y2] (vV 2 i no) := by
  intro w
  go_enter Tryz.func12, Tryz.ntmps12
  try simp only [List.append]
  have cx : Hid (O3 (((w.alloc (vO x0 x1 x2)).alloc (vO y0 y1 y2)).alloc (vO 0 0 no)) (w.heap.size) (.int .i64 x0) (.int .i64 x1) (.string x2)) := hide (by have h0 := (((O3.new w (.int .i64 x0) (.int .i64 x1) (.string x2) 30).alloc (vO y0 y1 y2)).alloc (vO 0 0 no)); exact h0)
  have cy : Hid (O3 (((w.alloc (vO x0 x1 x2)).alloc (vO y0 y1 y2)).alloc (vO 0 0 no)) (w.heap.size + 1) (.int .i64 y0) (.int .i64 y1) (.string y2)) := hide (by have h0 := ((O3.new (w.alloc (vO x0 x1 x2)) (.int .i64 y0) (.int .i64 y1) (.string y2) 30).alloc (vO 0 0 no)); simp only [World.size_alloc] at h0; exact h0)
  have cr : Hid (O3 (((w.alloc (vO x0 x1 x2)).alloc (vO y0 y1 y2)).alloc (vO 0 0 no)) (w.heap.size + 2) (.int .i64 0) (.int .i64 0) (.string no)) := hide (by have h0 := (O3.new ((w.alloc (vO x0 x1 x2)).alloc (vO y0 y1 y2)) (.int .i64 0) (.int .i64 0) (.string no) 30); simp only [World.size_alloc] at h0; exact h0)
  have qcx10 := cell_regrown cx.out.1.1
  have qcx11 := cell_regrown cx.out.1.2.1
  have qcx12 := cell_regrown cx.out.1.2.2
  have qcy10 := cell_regrown cy.out.1.1
  have qcy11 := cell_regrown cy.out.1.2.1
  have qcy12 := cell_regrown cy.out.1.2.2
  have k10 := fun d' os => Calls.regrown_of (HA.out (grow (redrawn (((w.alloc (vO x0 x1 x2)).alloc (vO y0 y1 y2)).alloc (vO 0 0 no)) d') os))
  have k11 := fun d' os => Calls.regrown_of (HB.out (grow (redrawn (((w.alloc (vO x0 x1 x2)).alloc (vO y0 y1 y2)).alloc (vO 0 0 no)) d') os))
  go_wp2_with fail
  refine quiet_tail 4 (by kernel_rfl) (by kernel_rfl) ?_
  simp only [List.take_succ_cons, List.take_zero, List.drop_succ_cons, List.drop_zero]
  repeat (go_big_quiet_step (first | (with_reducible exact k10 _ _) | (with_reducible exact k11 _ _)))
  refine wpQuiet_nil ?_
  intro w1 hw1
  have hb1 : Below ((((w.alloc (vO x0 x1 x2)).alloc (vO y0 y1 y2)).alloc (vO 0 0 no))).heap.size (((w.alloc (vO x0 x1 x2)).alloc (vO y0 y1 y2)).alloc (vO 0 0 no)) w1 := by obtain ⟨⟨dq, osq⟩, hq⟩ := hw1; rw [hq]; exact below_regrown _ dq osq
  clear hw1 qcx10 qcx11 qcx12 qcy10 qcy11 qcy12 k10 k11
  have B1 := hide (next (step (step (step (Below.refl w.heap.size w) (vO x0 x1 x2)) (vO y0 y1 y2)) (vO 0 0 no)) hb1)
  replace cx := hide (cx.out.keep hb1)
  replace cy := hide (cy.out.keep hb1)
  replace cr := hide (cr.out.keep hb1)
  have cxu20 := cx.out.1.1
  have cxu21 := cx.out.1.2.1
  have cxu22 := cx.out.1.2.2
  have cxu2f := cx.out.2
  have Bq1 := hide (below_put3 (b := w.heap.size) (B1.out) (by omega) (.int .i64 a0) (.int .i64 a1) (.string a2))
  replace cx := hide (cx.out.put (.int .i64 a0) (.int .i64 a1) (.string a2))
  replace cy := hide (O3.other (b := w.heap.size) (u0 := .int .i64 a0) (u1 := .int .i64 a1) (u2 := .string a2) cy.out (by omega))
  replace cr := hide (O3.other (b := w.heap.size) (u0 := .int .i64 a0) (u1 := .int .i64 a1) (u2 := .string a2) cr.out (by omega))
  obtain ⟨wq1, hwq1⟩ : ∃ wq1, put3 (w1) (w.heap.size) (.int .i64 a0) (.int .i64 a1) (.string a2) = wq1 := ⟨_, rfl⟩
  rw [hwq1] at Bq1 cx cy cr
  unfold put3 at hwq1
  have cyu40 := cy.out.1.1
  have cyu41 := cy.out.1.2.1
  have cyu42 := cy.out.1.2.2
  have cyu4f := cy.out.2
  have Bq3 := hide (below_put3 (b := w.heap.size + 1) (Bq1.out) (by omega) (.int .i64 b0) (.int .i64 b1) (.string b2))
  replace cx := hide (O3.other (b := w.heap.size + 1) (u0 := .int .i64 b0) (u1 := .int .i64 b1) (u2 := .string b2) cx.out (by omega))
  replace cy := hide (cy.out.put (.int .i64 b0) (.int .i64 b1) (.string b2))
  replace cr := hide (O3.other (b := w.heap.size + 1) (u0 := .int .i64 b0) (u1 := .int .i64 b1) (u2 := .string b2) cr.out (by omega))
  obtain ⟨wq3, hwq3⟩ : ∃ wq3, put3 (wq1) (w.heap.size + 1) (.int .i64 b0) (.int .i64 b1) (.string b2) = wq3 := ⟨_, rfl⟩
  rw [hwq3] at Bq3 cx cy cr
  unfold put3 at hwq3
  have cxu50 := cx.out.1.1
  have cxu51 := cx.out.1.2.1
  have cxu52 := cx.out.1.2.2
  have cyu60 := cy.out.1.1
  have cyu61 := cy.out.1.2.1
  have cyu62 := cy.out.1.2.2
  go_wp2_with fail
  refine (fe2_none _ ⟨a0, a1, a2⟩ ⟨b0, b1, b2⟩ h4 h5).mono ?_
  rintro e w2 ⟨rfl, hb2⟩
  clear cxu20
  clear cxu21
  clear cxu22
  clear cxu2f
  clear cyu40
  clear cyu41
  clear cyu42
  clear cyu4f
  clear cxu50
  clear cxu51
  clear cxu52
  clear cyu60
  clear cyu61
  clear cyu62
  have B2 := hide (next (step (Bq3.out) _) hb2)
  replace cx := hide ((cx.out.alloc _).keep hb2)
  replace cy := hide ((cy.out.alloc _).keep hb2)
  replace cr := hide ((cr.out.alloc _).keep hb2)
  replace cx := hide ((cx.out.alloc (vO 0 0 no)))
  replace cy := hide ((cy.out.alloc (vO 0 0 no)))
  replace cr := hide ((cr.out.alloc (vO 0 0 no)))
  have cxu70 := cx.out.1.1
  have cxu71 := cx.out.1.2.1
  have cxu72 := cx.out.1.2.2
  have cyu80 := cy.out.1.1
  have cyu81 := cy.out.1.2.1
  have cyu82 := cy.out.1.2.2
  go_wp2_with fail
  refine (HO.out _).mono ?_
  rintro e w3 ⟨rfl, hb3⟩
  clear cxu70
  clear cxu71
  clear cxu72
  clear cyu80
  clear cyu81
  clear cyu82
  have B3 := hide (next (step (B2.out) (vO 0 0 no)) hb3)
  replace cx := hide (cx.out.keep hb3)
  replace cy := hide (cy.out.keep hb3)
  replace cr := hide (cr.out.keep hb3)
  go_wp2_with fail
  refine (HH.out _).mono ?_
  rintro e w4 ⟨rfl, hb4⟩
  have B4 := hide (next (B3.out) hb4)
  replace cx := hide (cx.out.keep hb4)
  replace cy := hide (cy.out.keep hb4)
  replace cr := hide (cr.out.keep hb4)
  go_wp2_with fail
  refine (HT.out _).mono ?_
  rintro e w5 ⟨rfl, hb5⟩
  have B5 := hide (next (B4.out) hb5)
  replace cx := hide (cx.out.keep hb5)
  replace cy := hide (cy.out.keep hb5)
  replace cr := hide (cr.out.keep hb5)
  have cru100 := cr.out.1.1
  have cru101 := cr.out.1.2.1
  have cru102 := cr.out.1.2.2
  have cru10f := cr.out.2
  have Bq9 := hide (below_put3 (b := w.heap.size + 2) (B5.out) (by omega) (.int .i64 2) (.int .i64 i) (.string no))
  replace cx := hide (O3.other (b := w.heap.size + 2) (u0 := .int .i64 2) (u1 := .int .i64 i) (u2 := .string no) cx.out (by omega))
  replace cy := hide (O3.other (b := w.heap.size + 2) (u0 := .int .i64 2) (u1 := .int .i64 i) (u2 := .string no) cy.out (by omega))
  replace cr := hide (cr.out.put (.int .i64 2) (.int .i64 i) (.string no))
  obtain ⟨wq9, hwq9⟩ : ∃ wq9, put3 (w5) (w.heap.size + 2) (.int .i64 2) (.int .i64 i) (.string no) = wq9 := ⟨_, rfl⟩
  rw [hwq9] at Bq9 cx cy cr
  unfold put3 at hwq9
  have cru110 := cr.out.1.1
  have cru111 := cr.out.1.2.1
  have cru112 := cr.out.1.2.2
  go_wp2_with fail
  refine bodyPost_ret (by simp [results, Tryz.results12, go_sem, cru110, cru111, cru112]; try rfl) rfl ?_
  exact ⟨rfl, Bq9.out⟩
set_option maxHeartbeats 2000000 in
theorem bin_cmp8 (x0 x1 : Int) (x2 : ByteArray) (y0 y1 : Int) (y2 : ByteArray) (a0 a1 : Int) (a2 : ByteArray) (b0 b1 : Int) (b2 : ByteArray) (HA : CallIs 25 #[vV x0 x1 x2] (vV a0 a1 a2)) (HB : CallIs 25 #[vV y0 y1 y2] (vV b0 b1 b2)) (h4 : a0 ≠ 4) (h5 : b0 ≠ 4) (c i : Int) (b : Bool) (HO : CallIs 31 #[vV a0 a1 a2, vV b0 b1 b2] (.int .i64 c)) (HH : CallIs 30 #[.int .i64 8, .int .i64 c] (.bool b)) (HT : CallIs 29 #[.bool b] (vV 2 i no)) : CallIs 12 #[.int .i64 8, vV x0 x1 x2, vV y0 y1 y2] (vV 2 i no) := by
  intro w
  go_enter Tryz.func12, Tryz.ntmps12
  try simp only [List.append]
  have cx : Hid (O3 (((w.alloc (vO x0 x1 x2)).alloc (vO y0 y1 y2)).alloc (vO 0 0 no)) (w.heap.size) (.int .i64 x0) (.int .i64 x1) (.string x2)) := hide (by have h0 := (((O3.new w (.int .i64 x0) (.int .i64 x1) (.string x2) 30).alloc (vO y0 y1 y2)).alloc (vO 0 0 no)); exact h0)
  have cy : Hid (O3 (((w.alloc (vO x0 x1 x2)).alloc (vO y0 y1 y2)).alloc (vO 0 0 no)) (w.heap.size + 1) (.int .i64 y0) (.int .i64 y1) (.string y2)) := hide (by have h0 := ((O3.new (w.alloc (vO x0 x1 x2)) (.int .i64 y0) (.int .i64 y1) (.string y2) 30).alloc (vO 0 0 no)); simp only [World.size_alloc] at h0; exact h0)
  have cr : Hid (O3 (((w.alloc (vO x0 x1 x2)).alloc (vO y0 y1 y2)).alloc (vO 0 0 no)) (w.heap.size + 2) (.int .i64 0) (.int .i64 0) (.string no)) := hide (by have h0 := (O3.new ((w.alloc (vO x0 x1 x2)).alloc (vO y0 y1 y2)) (.int .i64 0) (.int .i64 0) (.string no) 30); simp only [World.size_alloc] at h0; exact h0)
  have qcx10 := cell_regrown cx.out.1.1
  have qcx11 := cell_regrown cx.out.1.2.1
  have qcx12 := cell_regrown cx.out.1.2.2
  have qcy10 := cell_regrown cy.out.1.1
  have qcy11 := cell_regrown cy.out.1.2.1
  have qcy12 := cell_regrown cy.out.1.2.2
  have k10 := fun d' os => Calls.regrown_of (HA.out (grow (redrawn (((w.alloc (vO x0 x1 x2)).alloc (vO y0 y1 y2)).alloc (vO 0 0 no)) d') os))
  have k11 := fun d' os => Calls.regrown_of (HB.out (grow (redrawn (((w.alloc (vO x0 x1 x2)).alloc (vO y0 y1 y2)).alloc (vO 0 0 no)) d') os))
  go_wp2_with fail
  refine quiet_tail 4 (by kernel_rfl) (by kernel_rfl) ?_
  simp only [List.take_succ_cons, List.take_zero, List.drop_succ_cons, List.drop_zero]
  repeat (go_big_quiet_step (first | (with_reducible exact k10 _ _) | (with_reducible exact k11 _ _)))
  refine wpQuiet_nil ?_
  intro w1 hw1
  have hb1 : Below ((((w.alloc (vO x0 x1 x2)).alloc (vO y0 y1 y2)).alloc (vO 0 0 no))).heap.size (((w.alloc (vO x0 x1 x2)).alloc (vO y0 y1 y2)).alloc (vO 0 0 no)) w1 := by obtain ⟨⟨dq, osq⟩, hq⟩ := hw1; rw [hq]; exact below_regrown _ dq osq
  clear hw1 qcx10 qcx11 qcx12 qcy10 qcy11 qcy12 k10 k11
  have B1 := hide (next (step (step (step (Below.refl w.heap.size w) (vO x0 x1 x2)) (vO y0 y1 y2)) (vO 0 0 no)) hb1)
  replace cx := hide (cx.out.keep hb1)
  replace cy := hide (cy.out.keep hb1)
  replace cr := hide (cr.out.keep hb1)
  have cxu20 := cx.out.1.1
  have cxu21 := cx.out.1.2.1
  have cxu22 := cx.out.1.2.2
  have cxu2f := cx.out.2
  have Bq1 := hide (below_put3 (b := w.heap.size) (B1.out) (by omega) (.int .i64 a0) (.int .i64 a1) (.string a2))
  replace cx := hide (cx.out.put (.int .i64 a0) (.int .i64 a1) (.string a2))
  replace cy := hide (O3.other (b := w.heap.size) (u0 := .int .i64 a0) (u1 := .int .i64 a1) (u2 := .string a2) cy.out (by omega))
  replace cr := hide (O3.other (b := w.heap.size) (u0 := .int .i64 a0) (u1 := .int .i64 a1) (u2 := .string a2) cr.out (by omega))
  obtain ⟨wq1, hwq1⟩ : ∃ wq1, put3 (w1) (w.heap.size) (.int .i64 a0) (.int .i64 a1) (.string a2) = wq1 := ⟨_, rfl⟩
  rw [hwq1] at Bq1 cx cy cr
  unfold put3 at hwq1
  have cyu40 := cy.out.1.1
  have cyu41 := cy.out.1.2.1
  have cyu42 := cy.out.1.2.2
  have cyu4f := cy.out.2
  have Bq3 := hide (below_put3 (b := w.heap.size + 1) (Bq1.out) (by omega) (.int .i64 b0) (.int .i64 b1) (.string b2))
  replace cx := hide (O3.other (b := w.heap.size + 1) (u0 := .int .i64 b0) (u1 := .int .i64 b1) (u2 := .string b2) cx.out (by omega))
  replace cy := hide (cy.out.put (.int .i64 b0) (.int .i64 b1) (.string b2))
  replace cr := hide (O3.other (b := w.heap.size + 1) (u0 := .int .i64 b0) (u1 := .int .i64 b1) (u2 := .string b2) cr.out (by omega))
  obtain ⟨wq3, hwq3⟩ : ∃ wq3, put3 (wq1) (w.heap.size + 1) (.int .i64 b0) (.int .i64 b1) (.string b2) = wq3 := ⟨_, rfl⟩
  rw [hwq3] at Bq3 cx cy cr
  unfold put3 at hwq3
  have cxu50 := cx.out.1.1
  have cxu51 := cx.out.1.2.1
  have cxu52 := cx.out.1.2.2
  have cyu60 := cy.out.1.1
  have cyu61 := cy.out.1.2.1
  have cyu62 := cy.out.1.2.2
  go_wp2_with fail
  refine (fe2_none _ ⟨a0, a1, a2⟩ ⟨b0, b1, b2⟩ h4 h5).mono ?_
  rintro e w2 ⟨rfl, hb2⟩
  clear cxu20
  clear cxu21
  clear cxu22
  clear cxu2f
  clear cyu40
  clear cyu41
  clear cyu42
  clear cyu4f
  clear cxu50
  clear cxu51
  clear cxu52
  clear cyu60
  clear cyu61
  clear cyu62
  have B2 := hide (next (step (Bq3.out) _) hb2)
  replace cx := hide ((cx.out.alloc _).keep hb2)
  replace cy := hide ((cy.out.alloc _).keep hb2)
  replace cr := hide ((cr.out.alloc _).keep hb2)
  replace cx := hide ((cx.out.alloc (vO 0 0 no)))
  replace cy := hide ((cy.out.alloc (vO 0 0 no)))
  replace cr := hide ((cr.out.alloc (vO 0 0 no)))
  have cxu70 := cx.out.1.1
  have cxu71 := cx.out.1.2.1
  have cxu72 := cx.out.1.2.2
  have cyu80 := cy.out.1.1
  have cyu81 := cy.out.1.2.1
  have cyu82 := cy.out.1.2.2
  go_wp2_with fail
  refine (HO.out _).mono ?_
  rintro e w3 ⟨rfl, hb3⟩
  clear cxu70
  clear cxu71
  clear cxu72
  clear cyu80
  clear cyu81
  clear cyu82
  have B3 := hide (next (step (B2.out) (vO 0 0 no)) hb3)
  replace cx := hide (cx.out.keep hb3)
  replace cy := hide (cy.out.keep hb3)
  replace cr := hide (cr.out.keep hb3)
  go_wp2_with fail
  refine (HH.out _).mono ?_
  rintro e w4 ⟨rfl, hb4⟩
  have B4 := hide (next (B3.out) hb4)
  replace cx := hide (cx.out.keep hb4)
  replace cy := hide (cy.out.keep hb4)
  replace cr := hide (cr.out.keep hb4)
  go_wp2_with fail
  refine (HT.out _).mono ?_
  rintro e w5 ⟨rfl, hb5⟩
  have B5 := hide (next (B4.out) hb5)
  replace cx := hide (cx.out.keep hb5)
  replace cy := hide (cy.out.keep hb5)
  replace cr := hide (cr.out.keep hb5)
  have cru100 := cr.out.1.1
  have cru101 := cr.out.1.2.1
  have cru102 := cr.out.1.2.2
  have cru10f := cr.out.2
  have Bq9 := hide (below_put3 (b := w.heap.size + 2) (B5.out) (by omega) (.int .i64 2) (.int .i64 i) (.string no))
  replace cx := hide (O3.other (b := w.heap.size + 2) (u0 := .int .i64 2) (u1 := .int .i64 i) (u2 := .string no) cx.out (by omega))
  replace cy := hide (O3.other (b := w.heap.size + 2) (u0 := .int .i64 2) (u1 := .int .i64 i) (u2 := .string no) cy.out (by omega))
  replace cr := hide (cr.out.put (.int .i64 2) (.int .i64 i) (.string no))
  obtain ⟨wq9, hwq9⟩ : ∃ wq9, put3 (w5) (w.heap.size + 2) (.int .i64 2) (.int .i64 i) (.string no) = wq9 := ⟨_, rfl⟩
  rw [hwq9] at Bq9 cx cy cr
  unfold put3 at hwq9
  have cru110 := cr.out.1.1
  have cru111 := cr.out.1.2.1
  have cru112 := cr.out.1.2.2
  go_wp2_with fail
  refine bodyPost_ret (by simp [results, Tryz.results12, go_sem, cru110, cru111, cru112]; try rfl) rfl ?_
  exact ⟨rfl, Bq9.out⟩
set_option maxHeartbeats 2000000 in
theorem bin_cmp9 (x0 x1 : Int) (x2 : ByteArray) (y0 y1 : Int) (y2 : ByteArray) (a0 a1 : Int) (a2 : ByteArray) (b0 b1 : Int) (b2 : ByteArray) (HA : CallIs 25 #[vV x0 x1 x2] (vV a0 a1 a2)) (HB : CallIs 25 #[vV y0 y1 y2] (vV b0 b1 b2)) (h4 : a0 ≠ 4) (h5 : b0 ≠ 4) (c i : Int) (b : Bool) (HO : CallIs 31 #[vV a0 a1 a2, vV b0 b1 b2] (.int .i64 c)) (HH : CallIs 30 #[.int .i64 9, .int .i64 c] (.bool b)) (HT : CallIs 29 #[.bool b] (vV 2 i no)) : CallIs 12 #[.int .i64 9, vV x0 x1 x2, vV y0 y1 y2] (vV 2 i no) := by
  intro w
  go_enter Tryz.func12, Tryz.ntmps12
  try simp only [List.append]
  have cx : Hid (O3 (((w.alloc (vO x0 x1 x2)).alloc (vO y0 y1 y2)).alloc (vO 0 0 no)) (w.heap.size) (.int .i64 x0) (.int .i64 x1) (.string x2)) := hide (by have h0 := (((O3.new w (.int .i64 x0) (.int .i64 x1) (.string x2) 30).alloc (vO y0 y1 y2)).alloc (vO 0 0 no)); exact h0)
  have cy : Hid (O3 (((w.alloc (vO x0 x1 x2)).alloc (vO y0 y1 y2)).alloc (vO 0 0 no)) (w.heap.size + 1) (.int .i64 y0) (.int .i64 y1) (.string y2)) := hide (by have h0 := ((O3.new (w.alloc (vO x0 x1 x2)) (.int .i64 y0) (.int .i64 y1) (.string y2) 30).alloc (vO 0 0 no)); simp only [World.size_alloc] at h0; exact h0)
  have cr : Hid (O3 (((w.alloc (vO x0 x1 x2)).alloc (vO y0 y1 y2)).alloc (vO 0 0 no)) (w.heap.size + 2) (.int .i64 0) (.int .i64 0) (.string no)) := hide (by have h0 := (O3.new ((w.alloc (vO x0 x1 x2)).alloc (vO y0 y1 y2)) (.int .i64 0) (.int .i64 0) (.string no) 30); simp only [World.size_alloc] at h0; exact h0)
  have qcx10 := cell_regrown cx.out.1.1
  have qcx11 := cell_regrown cx.out.1.2.1
  have qcx12 := cell_regrown cx.out.1.2.2
  have qcy10 := cell_regrown cy.out.1.1
  have qcy11 := cell_regrown cy.out.1.2.1
  have qcy12 := cell_regrown cy.out.1.2.2
  have k10 := fun d' os => Calls.regrown_of (HA.out (grow (redrawn (((w.alloc (vO x0 x1 x2)).alloc (vO y0 y1 y2)).alloc (vO 0 0 no)) d') os))
  have k11 := fun d' os => Calls.regrown_of (HB.out (grow (redrawn (((w.alloc (vO x0 x1 x2)).alloc (vO y0 y1 y2)).alloc (vO 0 0 no)) d') os))
  go_wp2_with fail
  refine quiet_tail 4 (by kernel_rfl) (by kernel_rfl) ?_
  simp only [List.take_succ_cons, List.take_zero, List.drop_succ_cons, List.drop_zero]
  repeat (go_big_quiet_step (first | (with_reducible exact k10 _ _) | (with_reducible exact k11 _ _)))
  refine wpQuiet_nil ?_
  intro w1 hw1
  have hb1 : Below ((((w.alloc (vO x0 x1 x2)).alloc (vO y0 y1 y2)).alloc (vO 0 0 no))).heap.size (((w.alloc (vO x0 x1 x2)).alloc (vO y0 y1 y2)).alloc (vO 0 0 no)) w1 := by obtain ⟨⟨dq, osq⟩, hq⟩ := hw1; rw [hq]; exact below_regrown _ dq osq
  clear hw1 qcx10 qcx11 qcx12 qcy10 qcy11 qcy12 k10 k11
  have B1 := hide (next (step (step (step (Below.refl w.heap.size w) (vO x0 x1 x2)) (vO y0 y1 y2)) (vO 0 0 no)) hb1)
  replace cx := hide (cx.out.keep hb1)
  replace cy := hide (cy.out.keep hb1)
  replace cr := hide (cr.out.keep hb1)
  have cxu20 := cx.out.1.1
  have cxu21 := cx.out.1.2.1
  have cxu22 := cx.out.1.2.2
  have cxu2f := cx.out.2
  have Bq1 := hide (below_put3 (b := w.heap.size) (B1.out) (by omega) (.int .i64 a0) (.int .i64 a1) (.string a2))
  replace cx := hide (cx.out.put (.int .i64 a0) (.int .i64 a1) (.string a2))
  replace cy := hide (O3.other (b := w.heap.size) (u0 := .int .i64 a0) (u1 := .int .i64 a1) (u2 := .string a2) cy.out (by omega))
  replace cr := hide (O3.other (b := w.heap.size) (u0 := .int .i64 a0) (u1 := .int .i64 a1) (u2 := .string a2) cr.out (by omega))
  obtain ⟨wq1, hwq1⟩ : ∃ wq1, put3 (w1) (w.heap.size) (.int .i64 a0) (.int .i64 a1) (.string a2) = wq1 := ⟨_, rfl⟩
  rw [hwq1] at Bq1 cx cy cr
  unfold put3 at hwq1
  have cyu40 := cy.out.1.1
  have cyu41 := cy.out.1.2.1
  have cyu42 := cy.out.1.2.2
  have cyu4f := cy.out.2
  have Bq3 := hide (below_put3 (b := w.heap.size + 1) (Bq1.out) (by omega) (.int .i64 b0) (.int .i64 b1) (.string b2))
  replace cx := hide (O3.other (b := w.heap.size + 1) (u0 := .int .i64 b0) (u1 := .int .i64 b1) (u2 := .string b2) cx.out (by omega))
  replace cy := hide (cy.out.put (.int .i64 b0) (.int .i64 b1) (.string b2))
  replace cr := hide (O3.other (b := w.heap.size + 1) (u0 := .int .i64 b0) (u1 := .int .i64 b1) (u2 := .string b2) cr.out (by omega))
  obtain ⟨wq3, hwq3⟩ : ∃ wq3, put3 (wq1) (w.heap.size + 1) (.int .i64 b0) (.int .i64 b1) (.string b2) = wq3 := ⟨_, rfl⟩
  rw [hwq3] at Bq3 cx cy cr
  unfold put3 at hwq3
  have cxu50 := cx.out.1.1
  have cxu51 := cx.out.1.2.1
  have cxu52 := cx.out.1.2.2
  have cyu60 := cy.out.1.1
  have cyu61 := cy.out.1.2.1
  have cyu62 := cy.out.1.2.2
  go_wp2_with fail
  refine (fe2_none _ ⟨a0, a1, a2⟩ ⟨b0, b1, b2⟩ h4 h5).mono ?_
  rintro e w2 ⟨rfl, hb2⟩
  clear cxu20
  clear cxu21
  clear cxu22
  clear cxu2f
  clear cyu40
  clear cyu41
  clear cyu42
  clear cyu4f
  clear cxu50
  clear cxu51
  clear cxu52
  clear cyu60
  clear cyu61
  clear cyu62
  have B2 := hide (next (step (Bq3.out) _) hb2)
  replace cx := hide ((cx.out.alloc _).keep hb2)
  replace cy := hide ((cy.out.alloc _).keep hb2)
  replace cr := hide ((cr.out.alloc _).keep hb2)
  replace cx := hide ((cx.out.alloc (vO 0 0 no)))
  replace cy := hide ((cy.out.alloc (vO 0 0 no)))
  replace cr := hide ((cr.out.alloc (vO 0 0 no)))
  have cxu70 := cx.out.1.1
  have cxu71 := cx.out.1.2.1
  have cxu72 := cx.out.1.2.2
  have cyu80 := cy.out.1.1
  have cyu81 := cy.out.1.2.1
  have cyu82 := cy.out.1.2.2
  go_wp2_with fail
  refine (HO.out _).mono ?_
  rintro e w3 ⟨rfl, hb3⟩
  clear cxu70
  clear cxu71
  clear cxu72
  clear cyu80
  clear cyu81
  clear cyu82
  have B3 := hide (next (step (B2.out) (vO 0 0 no)) hb3)
  replace cx := hide (cx.out.keep hb3)
  replace cy := hide (cy.out.keep hb3)
  replace cr := hide (cr.out.keep hb3)
  go_wp2_with fail
  refine (HH.out _).mono ?_
  rintro e w4 ⟨rfl, hb4⟩
  have B4 := hide (next (B3.out) hb4)
  replace cx := hide (cx.out.keep hb4)
  replace cy := hide (cy.out.keep hb4)
  replace cr := hide (cr.out.keep hb4)
  go_wp2_with fail
  refine (HT.out _).mono ?_
  rintro e w5 ⟨rfl, hb5⟩
  have B5 := hide (next (B4.out) hb5)
  replace cx := hide (cx.out.keep hb5)
  replace cy := hide (cy.out.keep hb5)
  replace cr := hide (cr.out.keep hb5)
  have cru100 := cr.out.1.1
  have cru101 := cr.out.1.2.1
  have cru102 := cr.out.1.2.2
  have cru10f := cr.out.2
  have Bq9 := hide (below_put3 (b := w.heap.size + 2) (B5.out) (by omega) (.int .i64 2) (.int .i64 i) (.string no))
  replace cx := hide (O3.other (b := w.heap.size + 2) (u0 := .int .i64 2) (u1 := .int .i64 i) (u2 := .string no) cx.out (by omega))
  replace cy := hide (O3.other (b := w.heap.size + 2) (u0 := .int .i64 2) (u1 := .int .i64 i) (u2 := .string no) cy.out (by omega))
  replace cr := hide (cr.out.put (.int .i64 2) (.int .i64 i) (.string no))
  obtain ⟨wq9, hwq9⟩ : ∃ wq9, put3 (w5) (w.heap.size + 2) (.int .i64 2) (.int .i64 i) (.string no) = wq9 := ⟨_, rfl⟩
  rw [hwq9] at Bq9 cx cy cr
  unfold put3 at hwq9
  have cru110 := cr.out.1.1
  have cru111 := cr.out.1.2.1
  have cru112 := cr.out.1.2.2
  go_wp2_with fail
  refine bodyPost_ret (by simp [results, Tryz.results12, go_sem, cru110, cru111, cru112]; try rfl) rfl ?_
  exact ⟨rfl, Bq9.out⟩
set_option maxHeartbeats 2000000 in
theorem bin_cmp10 (x0 x1 : Int) (x2 : ByteArray) (y0 y1 : Int) (y2 : ByteArray) (a0 a1 : Int) (a2 : ByteArray) (b0 b1 : Int) (b2 : ByteArray) (HA : CallIs 25 #[vV x0 x1 x2] (vV a0 a1 a2)) (HB : CallIs 25 #[vV y0 y1 y2] (vV b0 b1 b2)) (h4 : a0 ≠ 4) (h5 : b0 ≠ 4) (c i : Int) (b : Bool) (HO : CallIs 31 #[vV a0 a1 a2, vV b0 b1 b2] (.int .i64 c)) (HH : CallIs 30 #[.int .i64 10, .int .i64 c] (.bool b)) (HT : CallIs 29 #[.bool b] (vV 2 i no)) : CallIs 12 #[.int .i64 10, vV x0 x1 x2, vV y0 y1 y2] (vV 2 i no) := by
  intro w
  go_enter Tryz.func12, Tryz.ntmps12
  try simp only [List.append]
  have cx : Hid (O3 (((w.alloc (vO x0 x1 x2)).alloc (vO y0 y1 y2)).alloc (vO 0 0 no)) (w.heap.size) (.int .i64 x0) (.int .i64 x1) (.string x2)) := hide (by have h0 := (((O3.new w (.int .i64 x0) (.int .i64 x1) (.string x2) 30).alloc (vO y0 y1 y2)).alloc (vO 0 0 no)); exact h0)
  have cy : Hid (O3 (((w.alloc (vO x0 x1 x2)).alloc (vO y0 y1 y2)).alloc (vO 0 0 no)) (w.heap.size + 1) (.int .i64 y0) (.int .i64 y1) (.string y2)) := hide (by have h0 := ((O3.new (w.alloc (vO x0 x1 x2)) (.int .i64 y0) (.int .i64 y1) (.string y2) 30).alloc (vO 0 0 no)); simp only [World.size_alloc] at h0; exact h0)
  have cr : Hid (O3 (((w.alloc (vO x0 x1 x2)).alloc (vO y0 y1 y2)).alloc (vO 0 0 no)) (w.heap.size + 2) (.int .i64 0) (.int .i64 0) (.string no)) := hide (by have h0 := (O3.new ((w.alloc (vO x0 x1 x2)).alloc (vO y0 y1 y2)) (.int .i64 0) (.int .i64 0) (.string no) 30); simp only [World.size_alloc] at h0; exact h0)
  have qcx10 := cell_regrown cx.out.1.1
  have qcx11 := cell_regrown cx.out.1.2.1
  have qcx12 := cell_regrown cx.out.1.2.2
  have qcy10 := cell_regrown cy.out.1.1
  have qcy11 := cell_regrown cy.out.1.2.1
  have qcy12 := cell_regrown cy.out.1.2.2
  have k10 := fun d' os => Calls.regrown_of (HA.out (grow (redrawn (((w.alloc (vO x0 x1 x2)).alloc (vO y0 y1 y2)).alloc (vO 0 0 no)) d') os))
  have k11 := fun d' os => Calls.regrown_of (HB.out (grow (redrawn (((w.alloc (vO x0 x1 x2)).alloc (vO y0 y1 y2)).alloc (vO 0 0 no)) d') os))
  go_wp2_with fail
  refine quiet_tail 4 (by kernel_rfl) (by kernel_rfl) ?_
  simp only [List.take_succ_cons, List.take_zero, List.drop_succ_cons, List.drop_zero]
  repeat (go_big_quiet_step (first | (with_reducible exact k10 _ _) | (with_reducible exact k11 _ _)))
  refine wpQuiet_nil ?_
  intro w1 hw1
  have hb1 : Below ((((w.alloc (vO x0 x1 x2)).alloc (vO y0 y1 y2)).alloc (vO 0 0 no))).heap.size (((w.alloc (vO x0 x1 x2)).alloc (vO y0 y1 y2)).alloc (vO 0 0 no)) w1 := by obtain ⟨⟨dq, osq⟩, hq⟩ := hw1; rw [hq]; exact below_regrown _ dq osq
  clear hw1 qcx10 qcx11 qcx12 qcy10 qcy11 qcy12 k10 k11
  have B1 := hide (next (step (step (step (Below.refl w.heap.size w) (vO x0 x1 x2)) (vO y0 y1 y2)) (vO 0 0 no)) hb1)
  replace cx := hide (cx.out.keep hb1)
  replace cy := hide (cy.out.keep hb1)
  replace cr := hide (cr.out.keep hb1)
  have cxu20 := cx.out.1.1
  have cxu21 := cx.out.1.2.1
  have cxu22 := cx.out.1.2.2
  have cxu2f := cx.out.2
  have Bq1 := hide (below_put3 (b := w.heap.size) (B1.out) (by omega) (.int .i64 a0) (.int .i64 a1) (.string a2))
  replace cx := hide (cx.out.put (.int .i64 a0) (.int .i64 a1) (.string a2))
  replace cy := hide (O3.other (b := w.heap.size) (u0 := .int .i64 a0) (u1 := .int .i64 a1) (u2 := .string a2) cy.out (by omega))
  replace cr := hide (O3.other (b := w.heap.size) (u0 := .int .i64 a0) (u1 := .int .i64 a1) (u2 := .string a2) cr.out (by omega))
  obtain ⟨wq1, hwq1⟩ : ∃ wq1, put3 (w1) (w.heap.size) (.int .i64 a0) (.int .i64 a1) (.string a2) = wq1 := ⟨_, rfl⟩
  rw [hwq1] at Bq1 cx cy cr
  unfold put3 at hwq1
  have cyu40 := cy.out.1.1
  have cyu41 := cy.out.1.2.1
  have cyu42 := cy.out.1.2.2
  have cyu4f := cy.out.2
  have Bq3 := hide (below_put3 (b := w.heap.size + 1) (Bq1.out) (by omega) (.int .i64 b0) (.int .i64 b1) (.string b2))
  replace cx := hide (O3.other (b := w.heap.size + 1) (u0 := .int .i64 b0) (u1 := .int .i64 b1) (u2 := .string b2) cx.out (by omega))
  replace cy := hide (cy.out.put (.int .i64 b0) (.int .i64 b1) (.string b2))
  replace cr := hide (O3.other (b := w.heap.size + 1) (u0 := .int .i64 b0) (u1 := .int .i64 b1) (u2 := .string b2) cr.out (by omega))
  obtain ⟨wq3, hwq3⟩ : ∃ wq3, put3 (wq1) (w.heap.size + 1) (.int .i64 b0) (.int .i64 b1) (.string b2) = wq3 := ⟨_, rfl⟩
  rw [hwq3] at Bq3 cx cy cr
  unfold put3 at hwq3
  have cxu50 := cx.out.1.1
  have cxu51 := cx.out.1.2.1
  have cxu52 := cx.out.1.2.2
  have cyu60 := cy.out.1.1
  have cyu61 := cy.out.1.2.1
  have cyu62 := cy.out.1.2.2
  go_wp2_with fail
  refine (fe2_none _ ⟨a0, a1, a2⟩ ⟨b0, b1, b2⟩ h4 h5).mono ?_
  rintro e w2 ⟨rfl, hb2⟩
  clear cxu20
  clear cxu21
  clear cxu22
  clear cxu2f
  clear cyu40
  clear cyu41
  clear cyu42
  clear cyu4f
  clear cxu50
  clear cxu51
  clear cxu52
  clear cyu60
  clear cyu61
  clear cyu62
  have B2 := hide (next (step (Bq3.out) _) hb2)
  replace cx := hide ((cx.out.alloc _).keep hb2)
  replace cy := hide ((cy.out.alloc _).keep hb2)
  replace cr := hide ((cr.out.alloc _).keep hb2)
  replace cx := hide ((cx.out.alloc (vO 0 0 no)))
  replace cy := hide ((cy.out.alloc (vO 0 0 no)))
  replace cr := hide ((cr.out.alloc (vO 0 0 no)))
  have cxu70 := cx.out.1.1
  have cxu71 := cx.out.1.2.1
  have cxu72 := cx.out.1.2.2
  have cyu80 := cy.out.1.1
  have cyu81 := cy.out.1.2.1
  have cyu82 := cy.out.1.2.2
  go_wp2_with fail
  refine (HO.out _).mono ?_
  rintro e w3 ⟨rfl, hb3⟩
  clear cxu70
  clear cxu71
  clear cxu72
  clear cyu80
  clear cyu81
  clear cyu82
  have B3 := hide (next (step (B2.out) (vO 0 0 no)) hb3)
  replace cx := hide (cx.out.keep hb3)
  replace cy := hide (cy.out.keep hb3)
  replace cr := hide (cr.out.keep hb3)
  go_wp2_with fail
  refine (HH.out _).mono ?_
  rintro e w4 ⟨rfl, hb4⟩
  have B4 := hide (next (B3.out) hb4)
  replace cx := hide (cx.out.keep hb4)
  replace cy := hide (cy.out.keep hb4)
  replace cr := hide (cr.out.keep hb4)
  go_wp2_with fail
  refine (HT.out _).mono ?_
  rintro e w5 ⟨rfl, hb5⟩
  have B5 := hide (next (B4.out) hb5)
  replace cx := hide (cx.out.keep hb5)
  replace cy := hide (cy.out.keep hb5)
  replace cr := hide (cr.out.keep hb5)
  have cru100 := cr.out.1.1
  have cru101 := cr.out.1.2.1
  have cru102 := cr.out.1.2.2
  have cru10f := cr.out.2
  have Bq9 := hide (below_put3 (b := w.heap.size + 2) (B5.out) (by omega) (.int .i64 2) (.int .i64 i) (.string no))
  replace cx := hide (O3.other (b := w.heap.size + 2) (u0 := .int .i64 2) (u1 := .int .i64 i) (u2 := .string no) cx.out (by omega))
  replace cy := hide (O3.other (b := w.heap.size + 2) (u0 := .int .i64 2) (u1 := .int .i64 i) (u2 := .string no) cy.out (by omega))
  replace cr := hide (cr.out.put (.int .i64 2) (.int .i64 i) (.string no))
  obtain ⟨wq9, hwq9⟩ : ∃ wq9, put3 (w5) (w.heap.size + 2) (.int .i64 2) (.int .i64 i) (.string no) = wq9 := ⟨_, rfl⟩
  rw [hwq9] at Bq9 cx cy cr
  unfold put3 at hwq9
  have cru110 := cr.out.1.1
  have cru111 := cr.out.1.2.1
  have cru112 := cr.out.1.2.2
  go_wp2_with fail
  refine bodyPost_ret (by simp [results, Tryz.results12, go_sem, cru110, cru111, cru112]; try rfl) rfl ?_
  exact ⟨rfl, Bq9.out⟩
set_option maxHeartbeats 2000000 in
theorem bin_cmp11 (x0 x1 : Int) (x2 : ByteArray) (y0 y1 : Int) (y2 : ByteArray) (a0 a1 : Int) (a2 : ByteArray) (b0 b1 : Int) (b2 : ByteArray) (HA : CallIs 25 #[vV x0 x1 x2] (vV a0 a1 a2)) (HB : CallIs 25 #[vV y0 y1 y2] (vV b0 b1 b2)) (h4 : a0 ≠ 4) (h5 : b0 ≠ 4) (c i : Int) (b : Bool) (HO : CallIs 31 #[vV a0 a1 a2, vV b0 b1 b2] (.int .i64 c)) (HH : CallIs 30 #[.int .i64 11, .int .i64 c] (.bool b)) (HT : CallIs 29 #[.bool b] (vV 2 i no)) : CallIs 12 #[.int .i64 11, vV x0 x1 x2, vV y0 y1 y2] (vV 2 i no) := by
  intro w
  go_enter Tryz.func12, Tryz.ntmps12
  try simp only [List.append]
  have cx : Hid (O3 (((w.alloc (vO x0 x1 x2)).alloc (vO y0 y1 y2)).alloc (vO 0 0 no)) (w.heap.size) (.int .i64 x0) (.int .i64 x1) (.string x2)) := hide (by have h0 := (((O3.new w (.int .i64 x0) (.int .i64 x1) (.string x2) 30).alloc (vO y0 y1 y2)).alloc (vO 0 0 no)); exact h0)
  have cy : Hid (O3 (((w.alloc (vO x0 x1 x2)).alloc (vO y0 y1 y2)).alloc (vO 0 0 no)) (w.heap.size + 1) (.int .i64 y0) (.int .i64 y1) (.string y2)) := hide (by have h0 := ((O3.new (w.alloc (vO x0 x1 x2)) (.int .i64 y0) (.int .i64 y1) (.string y2) 30).alloc (vO 0 0 no)); simp only [World.size_alloc] at h0; exact h0)
  have cr : Hid (O3 (((w.alloc (vO x0 x1 x2)).alloc (vO y0 y1 y2)).alloc (vO 0 0 no)) (w.heap.size + 2) (.int .i64 0) (.int .i64 0) (.string no)) := hide (by have h0 := (O3.new ((w.alloc (vO x0 x1 x2)).alloc (vO y0 y1 y2)) (.int .i64 0) (.int .i64 0) (.string no) 30); simp only [World.size_alloc] at h0; exact h0)
  have qcx10 := cell_regrown cx.out.1.1
  have qcx11 := cell_regrown cx.out.1.2.1
  have qcx12 := cell_regrown cx.out.1.2.2
  have qcy10 := cell_regrown cy.out.1.1
  have qcy11 := cell_regrown cy.out.1.2.1
  have qcy12 := cell_regrown cy.out.1.2.2
  have k10 := fun d' os => Calls.regrown_of (HA.out (grow (redrawn (((w.alloc (vO x0 x1 x2)).alloc (vO y0 y1 y2)).alloc (vO 0 0 no)) d') os))
  have k11 := fun d' os => Calls.regrown_of (HB.out (grow (redrawn (((w.alloc (vO x0 x1 x2)).alloc (vO y0 y1 y2)).alloc (vO 0 0 no)) d') os))
  go_wp2_with fail
  refine quiet_tail 4 (by kernel_rfl) (by kernel_rfl) ?_
  simp only [List.take_succ_cons, List.take_zero, List.drop_succ_cons, List.drop_zero]
  repeat (go_big_quiet_step (first | (with_reducible exact k10 _ _) | (with_reducible exact k11 _ _)))
  refine wpQuiet_nil ?_
  intro w1 hw1
  have hb1 : Below ((((w.alloc (vO x0 x1 x2)).alloc (vO y0 y1 y2)).alloc (vO 0 0 no))).heap.size (((w.alloc (vO x0 x1 x2)).alloc (vO y0 y1 y2)).alloc (vO 0 0 no)) w1 := by obtain ⟨⟨dq, osq⟩, hq⟩ := hw1; rw [hq]; exact below_regrown _ dq osq
  clear hw1 qcx10 qcx11 qcx12 qcy10 qcy11 qcy12 k10 k11
  have B1 := hide (next (step (step (step (Below.refl w.heap.size w) (vO x0 x1 x2)) (vO y0 y1 y2)) (vO 0 0 no)) hb1)
  replace cx := hide (cx.out.keep hb1)
  replace cy := hide (cy.out.keep hb1)
  replace cr := hide (cr.out.keep hb1)
  have cxu20 := cx.out.1.1
  have cxu21 := cx.out.1.2.1
  have cxu22 := cx.out.1.2.2
  have cxu2f := cx.out.2
  have Bq1 := hide (below_put3 (b := w.heap.size) (B1.out) (by omega) (.int .i64 a0) (.int .i64 a1) (.string a2))
  replace cx := hide (cx.out.put (.int .i64 a0) (.int .i64 a1) (.string a2))
  replace cy := hide (O3.other (b := w.heap.size) (u0 := .int .i64 a0) (u1 := .int .i64 a1) (u2 := .string a2) cy.out (by omega))
  replace cr := hide (O3.other (b := w.heap.size) (u0 := .int .i64 a0) (u1 := .int .i64 a1) (u2 := .string a2) cr.out (by omega))
  obtain ⟨wq1, hwq1⟩ : ∃ wq1, put3 (w1) (w.heap.size) (.int .i64 a0) (.int .i64 a1) (.string a2) = wq1 := ⟨_, rfl⟩
  rw [hwq1] at Bq1 cx cy cr
  unfold put3 at hwq1
  have cyu40 := cy.out.1.1
  have cyu41 := cy.out.1.2.1
  have cyu42 := cy.out.1.2.2
  have cyu4f := cy.out.2
  have Bq3 := hide (below_put3 (b := w.heap.size + 1) (Bq1.out) (by omega) (.int .i64 b0) (.int .i64 b1) (.string b2))
  replace cx := hide (O3.other (b := w.heap.size + 1) (u0 := .int .i64 b0) (u1 := .int .i64 b1) (u2 := .string b2) cx.out (by omega))
  replace cy := hide (cy.out.put (.int .i64 b0) (.int .i64 b1) (.string b2))
  replace cr := hide (O3.other (b := w.heap.size + 1) (u0 := .int .i64 b0) (u1 := .int .i64 b1) (u2 := .string b2) cr.out (by omega))
  obtain ⟨wq3, hwq3⟩ : ∃ wq3, put3 (wq1) (w.heap.size + 1) (.int .i64 b0) (.int .i64 b1) (.string b2) = wq3 := ⟨_, rfl⟩
  rw [hwq3] at Bq3 cx cy cr
  unfold put3 at hwq3
  have cxu50 := cx.out.1.1
  have cxu51 := cx.out.1.2.1
  have cxu52 := cx.out.1.2.2
  have cyu60 := cy.out.1.1
  have cyu61 := cy.out.1.2.1
  have cyu62 := cy.out.1.2.2
  go_wp2_with fail
  refine (fe2_none _ ⟨a0, a1, a2⟩ ⟨b0, b1, b2⟩ h4 h5).mono ?_
  rintro e w2 ⟨rfl, hb2⟩
  clear cxu20
  clear cxu21
  clear cxu22
  clear cxu2f
  clear cyu40
  clear cyu41
  clear cyu42
  clear cyu4f
  clear cxu50
  clear cxu51
  clear cxu52
  clear cyu60
  clear cyu61
  clear cyu62
  have B2 := hide (next (step (Bq3.out) _) hb2)
  replace cx := hide ((cx.out.alloc _).keep hb2)
  replace cy := hide ((cy.out.alloc _).keep hb2)
  replace cr := hide ((cr.out.alloc _).keep hb2)
  replace cx := hide ((cx.out.alloc (vO 0 0 no)))
  replace cy := hide ((cy.out.alloc (vO 0 0 no)))
  replace cr := hide ((cr.out.alloc (vO 0 0 no)))
  have cxu70 := cx.out.1.1
  have cxu71 := cx.out.1.2.1
  have cxu72 := cx.out.1.2.2
  have cyu80 := cy.out.1.1
  have cyu81 := cy.out.1.2.1
  have cyu82 := cy.out.1.2.2
  go_wp2_with fail
  refine (HO.out _).mono ?_
  rintro e w3 ⟨rfl, hb3⟩
  clear cxu70
  clear cxu71
  clear cxu72
  clear cyu80
  clear cyu81
  clear cyu82
  have B3 := hide (next (step (B2.out) (vO 0 0 no)) hb3)
  replace cx := hide (cx.out.keep hb3)
  replace cy := hide (cy.out.keep hb3)
  replace cr := hide (cr.out.keep hb3)
  go_wp2_with fail
  refine (HH.out _).mono ?_
  rintro e w4 ⟨rfl, hb4⟩
  have B4 := hide (next (B3.out) hb4)
  replace cx := hide (cx.out.keep hb4)
  replace cy := hide (cy.out.keep hb4)
  replace cr := hide (cr.out.keep hb4)
  go_wp2_with fail
  refine (HT.out _).mono ?_
  rintro e w5 ⟨rfl, hb5⟩
  have B5 := hide (next (B4.out) hb5)
  replace cx := hide (cx.out.keep hb5)
  replace cy := hide (cy.out.keep hb5)
  replace cr := hide (cr.out.keep hb5)
  have cru100 := cr.out.1.1
  have cru101 := cr.out.1.2.1
  have cru102 := cr.out.1.2.2
  have cru10f := cr.out.2
  have Bq9 := hide (below_put3 (b := w.heap.size + 2) (B5.out) (by omega) (.int .i64 2) (.int .i64 i) (.string no))
  replace cx := hide (O3.other (b := w.heap.size + 2) (u0 := .int .i64 2) (u1 := .int .i64 i) (u2 := .string no) cx.out (by omega))
  replace cy := hide (O3.other (b := w.heap.size + 2) (u0 := .int .i64 2) (u1 := .int .i64 i) (u2 := .string no) cy.out (by omega))
  replace cr := hide (cr.out.put (.int .i64 2) (.int .i64 i) (.string no))
  obtain ⟨wq9, hwq9⟩ : ∃ wq9, put3 (w5) (w.heap.size + 2) (.int .i64 2) (.int .i64 i) (.string no) = wq9 := ⟨_, rfl⟩
  rw [hwq9] at Bq9 cx cy cr
  unfold put3 at hwq9
  have cru110 := cr.out.1.1
  have cru111 := cr.out.1.2.1
  have cru112 := cr.out.1.2.2
  go_wp2_with fail
  refine bodyPost_ret (by simp [results, Tryz.results12, go_sem, cru110, cru111, cru112]; try rfl) rfl ?_
  exact ⟨rfl, Bq9.out⟩
set_option maxHeartbeats 2000000 in
theorem bin_cmp12 (x0 x1 : Int) (x2 : ByteArray) (y0 y1 : Int) (y2 : ByteArray) (a0 a1 : Int) (a2 : ByteArray) (b0 b1 : Int) (b2 : ByteArray) (HA : CallIs 25 #[vV x0 x1 x2] (vV a0 a1 a2)) (HB : CallIs 25 #[vV y0 y1 y2] (vV b0 b1 b2)) (h4 : a0 ≠ 4) (h5 : b0 ≠ 4) (c i : Int) (b : Bool) (HO : CallIs 31 #[vV a0 a1 a2, vV b0 b1 b2] (.int .i64 c)) (HH : CallIs 30 #[.int .i64 12, .int .i64 c] (.bool b)) (HT : CallIs 29 #[.bool b] (vV 2 i no)) : CallIs 12 #[.int .i64 12, vV x0 x1 x2, vV y0 y1 y2] (vV 2 i no) := by
  intro w
  go_enter Tryz.func12, Tryz.ntmps12
  try simp only [List.append]
  have cx : Hid (O3 (((w.alloc (vO x0 x1 x2)).alloc (vO y0 y1 y2)).alloc (vO 0 0 no)) (w.heap.size) (.int .i64 x0) (.int .i64 x1) (.string x2)) := hide (by have h0 := (((O3.new w (.int .i64 x0) (.int .i64 x1) (.string x2) 30).alloc (vO y0 y1 y2)).alloc (vO 0 0 no)); exact h0)
  have cy : Hid (O3 (((w.alloc (vO x0 x1 x2)).alloc (vO y0 y1 y2)).alloc (vO 0 0 no)) (w.heap.size + 1) (.int .i64 y0) (.int .i64 y1) (.string y2)) := hide (by have h0 := ((O3.new (w.alloc (vO x0 x1 x2)) (.int .i64 y0) (.int .i64 y1) (.string y2) 30).alloc (vO 0 0 no)); simp only [World.size_alloc] at h0; exact h0)
  have cr : Hid (O3 (((w.alloc (vO x0 x1 x2)).alloc (vO y0 y1 y2)).alloc (vO 0 0 no)) (w.heap.size + 2) (.int .i64 0) (.int .i64 0) (.string no)) := hide (by have h0 := (O3.new ((w.alloc (vO x0 x1 x2)).alloc (vO y0 y1 y2)) (.int .i64 0) (.int .i64 0) (.string no) 30); simp only [World.size_alloc] at h0; exact h0)
  have qcx10 := cell_regrown cx.out.1.1
  have qcx11 := cell_regrown cx.out.1.2.1
  have qcx12 := cell_regrown cx.out.1.2.2
  have qcy10 := cell_regrown cy.out.1.1
  have qcy11 := cell_regrown cy.out.1.2.1
  have qcy12 := cell_regrown cy.out.1.2.2
  have k10 := fun d' os => Calls.regrown_of (HA.out (grow (redrawn (((w.alloc (vO x0 x1 x2)).alloc (vO y0 y1 y2)).alloc (vO 0 0 no)) d') os))
  have k11 := fun d' os => Calls.regrown_of (HB.out (grow (redrawn (((w.alloc (vO x0 x1 x2)).alloc (vO y0 y1 y2)).alloc (vO 0 0 no)) d') os))
  go_wp2_with fail
  refine quiet_tail 4 (by kernel_rfl) (by kernel_rfl) ?_
  simp only [List.take_succ_cons, List.take_zero, List.drop_succ_cons, List.drop_zero]
  repeat (go_big_quiet_step (first | (with_reducible exact k10 _ _) | (with_reducible exact k11 _ _)))
  refine wpQuiet_nil ?_
  intro w1 hw1
  have hb1 : Below ((((w.alloc (vO x0 x1 x2)).alloc (vO y0 y1 y2)).alloc (vO 0 0 no))).heap.size (((w.alloc (vO x0 x1 x2)).alloc (vO y0 y1 y2)).alloc (vO 0 0 no)) w1 := by obtain ⟨⟨dq, osq⟩, hq⟩ := hw1; rw [hq]; exact below_regrown _ dq osq
  clear hw1 qcx10 qcx11 qcx12 qcy10 qcy11 qcy12 k10 k11
  have B1 := hide (next (step (step (step (Below.refl w.heap.size w) (vO x0 x1 x2)) (vO y0 y1 y2)) (vO 0 0 no)) hb1)
  replace cx := hide (cx.out.keep hb1)
  replace cy := hide (cy.out.keep hb1)
  replace cr := hide (cr.out.keep hb1)
  have cxu20 := cx.out.1.1
  have cxu21 := cx.out.1.2.1
  have cxu22 := cx.out.1.2.2
  have cxu2f := cx.out.2
  have Bq1 := hide (below_put3 (b := w.heap.size) (B1.out) (by omega) (.int .i64 a0) (.int .i64 a1) (.string a2))
  replace cx := hide (cx.out.put (.int .i64 a0) (.int .i64 a1) (.string a2))
  replace cy := hide (O3.other (b := w.heap.size) (u0 := .int .i64 a0) (u1 := .int .i64 a1) (u2 := .string a2) cy.out (by omega))
  replace cr := hide (O3.other (b := w.heap.size) (u0 := .int .i64 a0) (u1 := .int .i64 a1) (u2 := .string a2) cr.out (by omega))
  obtain ⟨wq1, hwq1⟩ : ∃ wq1, put3 (w1) (w.heap.size) (.int .i64 a0) (.int .i64 a1) (.string a2) = wq1 := ⟨_, rfl⟩
  rw [hwq1] at Bq1 cx cy cr
  unfold put3 at hwq1
  have cyu40 := cy.out.1.1
  have cyu41 := cy.out.1.2.1
  have cyu42 := cy.out.1.2.2
  have cyu4f := cy.out.2
  have Bq3 := hide (below_put3 (b := w.heap.size + 1) (Bq1.out) (by omega) (.int .i64 b0) (.int .i64 b1) (.string b2))
  replace cx := hide (O3.other (b := w.heap.size + 1) (u0 := .int .i64 b0) (u1 := .int .i64 b1) (u2 := .string b2) cx.out (by omega))
  replace cy := hide (cy.out.put (.int .i64 b0) (.int .i64 b1) (.string b2))
  replace cr := hide (O3.other (b := w.heap.size + 1) (u0 := .int .i64 b0) (u1 := .int .i64 b1) (u2 := .string b2) cr.out (by omega))
  obtain ⟨wq3, hwq3⟩ : ∃ wq3, put3 (wq1) (w.heap.size + 1) (.int .i64 b0) (.int .i64 b1) (.string b2) = wq3 := ⟨_, rfl⟩
  rw [hwq3] at Bq3 cx cy cr
  unfold put3 at hwq3
  have cxu50 := cx.out.1.1
  have cxu51 := cx.out.1.2.1
  have cxu52 := cx.out.1.2.2
  have cyu60 := cy.out.1.1
  have cyu61 := cy.out.1.2.1
  have cyu62 := cy.out.1.2.2
  go_wp2_with fail
  refine (fe2_none _ ⟨a0, a1, a2⟩ ⟨b0, b1, b2⟩ h4 h5).mono ?_
  rintro e w2 ⟨rfl, hb2⟩
  clear cxu20
  clear cxu21
  clear cxu22
  clear cxu2f
  clear cyu40
  clear cyu41
  clear cyu42
  clear cyu4f
  clear cxu50
  clear cxu51
  clear cxu52
  clear cyu60
  clear cyu61
  clear cyu62
  have B2 := hide (next (step (Bq3.out) _) hb2)
  replace cx := hide ((cx.out.alloc _).keep hb2)
  replace cy := hide ((cy.out.alloc _).keep hb2)
  replace cr := hide ((cr.out.alloc _).keep hb2)
  replace cx := hide ((cx.out.alloc (vO 0 0 no)))
  replace cy := hide ((cy.out.alloc (vO 0 0 no)))
  replace cr := hide ((cr.out.alloc (vO 0 0 no)))
  have cxu70 := cx.out.1.1
  have cxu71 := cx.out.1.2.1
  have cxu72 := cx.out.1.2.2
  have cyu80 := cy.out.1.1
  have cyu81 := cy.out.1.2.1
  have cyu82 := cy.out.1.2.2
  go_wp2_with fail
  refine (HO.out _).mono ?_
  rintro e w3 ⟨rfl, hb3⟩
  clear cxu70
  clear cxu71
  clear cxu72
  clear cyu80
  clear cyu81
  clear cyu82
  have B3 := hide (next (step (B2.out) (vO 0 0 no)) hb3)
  replace cx := hide (cx.out.keep hb3)
  replace cy := hide (cy.out.keep hb3)
  replace cr := hide (cr.out.keep hb3)
  go_wp2_with fail
  refine (HH.out _).mono ?_
  rintro e w4 ⟨rfl, hb4⟩
  have B4 := hide (next (B3.out) hb4)
  replace cx := hide (cx.out.keep hb4)
  replace cy := hide (cy.out.keep hb4)
  replace cr := hide (cr.out.keep hb4)
  go_wp2_with fail
  refine (HT.out _).mono ?_
  rintro e w5 ⟨rfl, hb5⟩
  have B5 := hide (next (B4.out) hb5)
  replace cx := hide (cx.out.keep hb5)
  replace cy := hide (cy.out.keep hb5)
  replace cr := hide (cr.out.keep hb5)
  have cru100 := cr.out.1.1
  have cru101 := cr.out.1.2.1
  have cru102 := cr.out.1.2.2
  have cru10f := cr.out.2
  have Bq9 := hide (below_put3 (b := w.heap.size + 2) (B5.out) (by omega) (.int .i64 2) (.int .i64 i) (.string no))
  replace cx := hide (O3.other (b := w.heap.size + 2) (u0 := .int .i64 2) (u1 := .int .i64 i) (u2 := .string no) cx.out (by omega))
  replace cy := hide (O3.other (b := w.heap.size + 2) (u0 := .int .i64 2) (u1 := .int .i64 i) (u2 := .string no) cy.out (by omega))
  replace cr := hide (cr.out.put (.int .i64 2) (.int .i64 i) (.string no))
  obtain ⟨wq9, hwq9⟩ : ∃ wq9, put3 (w5) (w.heap.size + 2) (.int .i64 2) (.int .i64 i) (.string no) = wq9 := ⟨_, rfl⟩
  rw [hwq9] at Bq9 cx cy cr
  unfold put3 at hwq9
  have cru110 := cr.out.1.1
  have cru111 := cr.out.1.2.1
  have cru112 := cr.out.1.2.2
  go_wp2_with fail
  refine bodyPost_ret (by simp [results, Tryz.results12, go_sem, cru110, cru111, cru112]; try rfl) rfl ?_
  exact ⟨rfl, Bq9.out⟩
end Go.Proofs.YtgnmkhjilecdhaaGreatDoor
