/- Package fold's match of a number: its rule, and what makes it. Proved of the Go text. -/
import Derived.Test.YtnpdkojhlgchlaaGreatDoorColX15
import Derived.Test.YtnpdkojhlgchlaaGreatDoorSgt15
namespace Go.Proofs.YtnpdkojhlgchlaaGreatDoor
open Go.RowKit Go.Sort
open T9 (Blk Chg)
set_option linter.unusedVariables false

/-- Where match's variables lie. -/
def MatS (x : Int) (Bp Bx : Nat) (n : Int) (m : Nat → Prop) (w : World) : Prop := Blk w Bp #[.int .i64 n] 2 ∧ Blk w Bx #[.bool false, .int .i64 0, .int .i64 0, .int .i64 0, .int .i64 0, .int .i64 1, .int .i64 x, .string no] 41 ∧ m = (fun k => k = Bp ∨ k = Bx) ∧ Bp ≠ Bx
theorem mat_stay (x : Int) (Bp Bx : Nat) : Stay (MatS x Bp Bx) := by
  constructor
  · intro s m w ⟨h1, h2, h3, _⟩ k hk
    rw [h3] at hk
    rcases hk with rfl | rfl
    · exact h1.lt
    · exact h2.lt
  · intro s m w w' ⟨h1, h2, h3, h4⟩ hb
    subst h3
    exact ⟨(hb _ (.inl rfl)).trans h1, (hb _ (.inr rfl)).trans h2, rfl, h4⟩
def isI (v : Va) : Prop := v.k = 1
def matT (x n : Int) (v : Va) : Stp × Int := if v.i == x then (.ends ⟨1, wrap64 (n + 1), no⟩, wrap64 (n + 1)) else (.on, wrap64 (n + 1))
theorem matT_nb (x s : Int) (v : Va) : (matT x s v).1 ≠ .bes := by unfold matT; split <;> simp
theorem no_of_int {v : Va} (h : VaOk v) (hk : isI v) : v = ⟨1, v.i, no⟩ := by
  obtain ⟨k, i, t⟩ := v
  unfold isI at hk
  simp only at hk
  subst hk
  rcases h.1 with ⟨h, _⟩ | ⟨_, h⟩ | ⟨h, _⟩ | ⟨h, _⟩ | ⟨h, _⟩
  · simp at h
  · simp only at h; subst h; rfl
  · simp at h
  · simp at h
  · simp at h
theorem mat_mid {x : Int} {Bp Bx : Nat} {n z : Int} {m : Nat → Prop} {w w1 w2 w3 : World} {X : Nat} (hs : MatS x Bp Bx n m w) (hb : Below w.heap.size w w1) (hX : w.heap.size ≤ X) (h2 : Blk w2 Bp #[.int .i64 z] 2) (c2 : Chg (· = Bp) w1 w2) (h3 : Below w2.heap.size w2 w3) : ∃ m', MatS x Bp Bx z m' w3 ∧ Grw m m' w ∧ Chg m w w3 ∧ ¬ m' X := by
  have hl := blk_low (mat_stay x Bp Bx) hs hX
  obtain ⟨g1, g2, g3, g4⟩ := hs
  refine ⟨m, ⟨h2.keep h3, (c2.blk (g2.keep hb) (Ne.symm g4)).keep h3, g3, g4⟩, Grw.refl _ _, ((Chg.of_below hb : Chg m w w1).trans (chg_of c2 (fun k e => ?_))).trans (Chg.of_below h3), hl⟩
  rw [g3]; exact .inl e
set_option maxHeartbeats 2000000 in
set_option maxRecDepth 100000 in
theorem mat1_does (x : Int) (Bp Bx : Nat) : DoesQ (fun _ v => True ∧ isI v) (MatS x Bp Bx) (matT x) 123 #[.pointer (some ⟨Bp, 0, none⟩), .pointer (some ⟨Bx, 0, none⟩)] := by
  refine ⟨?_, ent_of Tryz.func123 (by kernel_rfl) (by kernel_rfl)⟩
  intro n m v w hs hv hq
  rw [no_of_int hv hq.2]
  generalize v.i = i
  clear hv hq v
  obtain ⟨h1, h2, h3, h4⟩ := id hs
  have hS := hide (mat_stay x Bp Bx)
  obtain ⟨k, hk⟩ : ∃ k : Int, k = 1 := ⟨_, rfl⟩
  have K1 := hide (step (step (Below.refl w.heap.size w) (vO 1 i no)) (stO false false 0 0 no))
  have X1 : Blk ((w.alloc (vO 1 i no)).alloc (stO false false 0 0 no)) (w.heap.size + 1) #[.bool false, .bool false, .int .i64 0, .int .i64 0, .string no] 82 := T9.Blk.new1 w (vO 1 i no) _ _
  have V1 : Blk ((w.alloc (vO 1 i no)).alloc (stO false false 0 0 no)) w.heap.size #[.int .i64 1, .int .i64 i, .string no] 31 := (Blk.new w _ _).alloc _
  have P1 := (h1.alloc (vO 1 i no)).alloc (stO false false 0 0 no)
  have A1 := (h2.alloc (vO 1 i no)).alloc (stO false false 0 0 no)
  have a1 : ((w.alloc (vO 1 i no)).alloc (stO false false 0 0 no)).cell? ⟨Bp, 0, none⟩ = some (.int .i64 n) := P1.at' 0
  have ft := P1.fr 0
  obtain ⟨z, hz⟩ : ∃ z, wrap64 (n + 1) = z := ⟨_, rfl⟩
  have C4 := hide ((Chg.refl (· = Bp) ((w.alloc (vO 1 i no)).alloc (stO false false 0 0 no))).set Bp 0 (.int .i64 z) rfl)
  have P4 := hide (P1.set 0 (.int .i64 z))
  have X4 := hide (C4.out.blk X1 (by have := h1.lt; omega))
  have V4 := C4.out.blk V1 (by have := h1.lt; omega)
  have A4 := C4.out.blk A1 (Ne.symm h4)
  obtain ⟨w4, hw4⟩ : ∃ w4, ((w.alloc (vO 1 i no)).alloc (stO false false 0 0 no)).setCell ⟨Bp, 0, none⟩ (.int .i64 z) = w4 := ⟨_, rfl⟩
  rw [hw4] at C4 P4 X4 V4 A4
  simp only [stO, vO] at hw4 a1 ft
  have v0 : w4.cell? ⟨w.heap.size, 0, none⟩ = some (.int .i64 1) := V4.at' 0
  have v1 : w4.cell? ⟨w.heap.size, 1, none⟩ = some (.int .i64 i) := V4.at' 1
  have v2 : w4.cell? ⟨w.heap.size, 2, none⟩ = some (.string no) := V4.at' 2
  have b0 : w4.cell? ⟨Bx, 0, none⟩ = some (.bool false) := A4.at' 0
  have b1 : w4.cell? ⟨Bx, 1, none⟩ = some (.int .i64 0) := A4.at' 1
  have b2 : w4.cell? ⟨Bx, 2, none⟩ = some (.int .i64 0) := A4.at' 2
  have b3 : w4.cell? ⟨Bx, 3, none⟩ = some (.int .i64 0) := A4.at' 3
  have b4 : w4.cell? ⟨Bx, 4, none⟩ = some (.int .i64 0) := A4.at' 4
  have b5 : w4.cell? ⟨Bx, 5, none⟩ = some (.int .i64 1) := A4.at' 5
  have b6 : w4.cell? ⟨Bx, 6, none⟩ = some (.int .i64 x) := A4.at' 6
  have b7 : w4.cell? ⟨Bx, 7, none⟩ = some (.string no) := A4.at' 7
  have HS := sought_int i x
  have HN := fnum_is z
  have HE := endWith_is 1 z no
  replace hs := hide hs
  unfold matT
  rw [hz]
  simp only
  obtain ⟨r, hr⟩ : ∃ r, (i == x) = r := ⟨_, rfl⟩
  rw [hr] at HS ⊢
  clear h1 h2 h3 h4 X1 V1 P1 A1 V4 A4 hk hr
  cases r with
  | true =>
    go_enter Tryz.func123, Tryz.ntmps123
    go_wp2_with fail
    refine (HS.out _).mono ?_
    rintro e w5 ⟨rfl, hb5⟩
    have K5 := hide hb5
    have X5 := hide (X4.out.keep hb5)
    have c5 : w5.cell? ⟨Bp, 0, none⟩ = some (.int .i64 z) := (P4.out.keep hb5).at' 0
    clear hb5
    go_wp2_with fail
    refine (HN.out _).mono ?_
    rintro e w6 ⟨rfl, hb6⟩
    have K6 := hide (next K5.out hb6)
    have X6 := hide (X5.out.keep hb6)
    clear hb6 c5
    go_wp2_with fail
    refine (HE.out _).mono ?_
    rintro e w7 ⟨rfl, hb7⟩
    have K7 := hide (next K6.out hb7)
    clear v0 v1 v2 b0 b1 b2 b3 b4 b5 b6 b7
    have hX2 := hide (X6.out.keep hb7)
    have z0 : w7.cell? ⟨w.heap.size + 1, 0, none⟩ = some (.bool false) := hX2.out.at' 0
    have z1 : w7.cell? ⟨w.heap.size + 1, 1, none⟩ = some (.bool false) := hX2.out.at' 1
    have z2 : w7.cell? ⟨w.heap.size + 1, 2, none⟩ = some (.int .i64 0) := hX2.out.at' 2
    have z3 : w7.cell? ⟨w.heap.size + 1, 3, none⟩ = some (.int .i64 0) := hX2.out.at' 3
    have z4 : w7.cell? ⟨w.heap.size + 1, 4, none⟩ = some (.string no) := hX2.out.at' 4
    have zf := hX2.out.fr
    have h3 := blk5 hX2.out (.bool false) (.bool true) (.int .i64 1) (.int .i64 z) (.string no)
    have c3 := hide (chg5 w7 (w.heap.size + 1) (.bool false) (.bool true) (.int .i64 1) (.int .i64 z) (.string no))
    obtain ⟨w9, hw9⟩ : ∃ w9, put5 w7 (w.heap.size + 1) (.bool false) (.bool true) (.int .i64 1) (.int .i64 z) (.string no) = w9 := ⟨_, rfl⟩
    rw [hw9] at h3 c3
    unfold put5 at hw9
    have y0 : w9.cell? ⟨w.heap.size + 1, 0, none⟩ = some (.bool false) := h3.at' 0
    have y1 : w9.cell? ⟨w.heap.size + 1, 1, none⟩ = some (.bool true) := h3.at' 1
    have y2 : w9.cell? ⟨w.heap.size + 1, 2, none⟩ = some (.int .i64 1) := h3.at' 2
    have y3 : w9.cell? ⟨w.heap.size + 1, 3, none⟩ = some (.int .i64 z) := h3.at' 3
    have y4 : w9.cell? ⟨w.heap.size + 1, 4, none⟩ = some (.string no) := h3.at' 4
    replace h3 := hide h3
    go_wp2_with fail
    refine bodyPost_ret (by simp [results, Tryz.results123, go_sem, y0, y1, y2, y3, y4]; try rfl) rfl ?_
    exact ⟨rfl, end5 hS.out (Nat.le_succ _) (mat_mid hs.out K1.out (Nat.le_succ _) P4.out C4.out K7.out) c3.out⟩
  | false =>
    go_enter Tryz.func123, Tryz.ntmps123
    go_wp2_with fail
    refine (HS.out _).mono ?_
    rintro e w5 ⟨rfl, hb5⟩
    have K5 := hide hb5
    clear v0 v1 v2 b0 b1 b2 b3 b4 b5 b6 b7
    have hX2 := hide (X4.out.keep hb5)
    have z0 : w5.cell? ⟨w.heap.size + 1, 0, none⟩ = some (.bool false) := hX2.out.at' 0
    have z1 : w5.cell? ⟨w.heap.size + 1, 1, none⟩ = some (.bool false) := hX2.out.at' 1
    have z2 : w5.cell? ⟨w.heap.size + 1, 2, none⟩ = some (.int .i64 0) := hX2.out.at' 2
    have z3 : w5.cell? ⟨w.heap.size + 1, 3, none⟩ = some (.int .i64 0) := hX2.out.at' 3
    have z4 : w5.cell? ⟨w.heap.size + 1, 4, none⟩ = some (.string no) := hX2.out.at' 4
    have zf := hX2.out.fr
    have h3 := blk5 hX2.out (.bool false) (.bool false) (.int .i64 0) (.int .i64 0) (.string no)
    have c3 := hide (chg5 w5 (w.heap.size + 1) (.bool false) (.bool false) (.int .i64 0) (.int .i64 0) (.string no))
    obtain ⟨w9, hw9⟩ : ∃ w9, put5 w5 (w.heap.size + 1) (.bool false) (.bool false) (.int .i64 0) (.int .i64 0) (.string no) = w9 := ⟨_, rfl⟩
    rw [hw9] at h3 c3
    unfold put5 at hw9
    have y0 : w9.cell? ⟨w.heap.size + 1, 0, none⟩ = some (.bool false) := h3.at' 0
    have y1 : w9.cell? ⟨w.heap.size + 1, 1, none⟩ = some (.bool false) := h3.at' 1
    have y2 : w9.cell? ⟨w.heap.size + 1, 2, none⟩ = some (.int .i64 0) := h3.at' 2
    have y3 : w9.cell? ⟨w.heap.size + 1, 3, none⟩ = some (.int .i64 0) := h3.at' 3
    have y4 : w9.cell? ⟨w.heap.size + 1, 4, none⟩ = some (.string no) := h3.at' 4
    replace h3 := hide h3
    go_wp2_with fail
    refine bodyPost_ret (by simp [results, Tryz.results123, go_sem, y0, y1, y2, y3, y4]; try rfl) rfl ?_
    exact ⟨rfl, end5 hS.out (Nat.le_succ _) (mat_mid hs.out K1.out (Nat.le_succ _) P4.out C4.out K5.out) c3.out⟩
set_option maxHeartbeats 1000000 in
theorem mat2_ends {σ : Type} (S : σ → (Nat → Prop) → World → Prop) : Ends S (fun _ => ⟨4, 6, no⟩) 126 #[] := by
  refine ⟨?_, ent_of Tryz.func126 (by kernel_rfl) (by kernel_rfl)⟩
  intro s m w _
  have HF := ffault_is 6
  go_enter Tryz.func126, Tryz.ntmps126
  go_wp2_with fail
  refine (HF.out _).mono ?_
  rintro e w1 ⟨rfl, hb1⟩
  have B1 := hide (next (step (Below.refl w.heap.size w) _) hb1)
  have cr := hide ((O3.new w (.int .i64 0) (.int .i64 0) (.string no) 31).keep hb1)
  have u0 := cr.out.1.1
  have u1 := cr.out.1.2.1
  have u2 := cr.out.1.2.2
  have uf := cr.out.2
  have Bq := hide (below_put3 (b := w.heap.size) B1.out (Nat.le_refl _) (.int .i64 4) (.int .i64 6) (.string no))
  replace cr := hide (cr.out.put (.int .i64 4) (.int .i64 6) (.string no))
  obtain ⟨wq, hwq⟩ : ∃ wq, put3 w1 w.heap.size (.int .i64 4) (.int .i64 6) (.string no) = wq := ⟨_, rfl⟩
  rw [hwq] at Bq cr
  unfold put3 at hwq
  have v0 := cr.out.1.1
  have v1 := cr.out.1.2.1
  have v2 := cr.out.1.2.2
  clear hb1
  go_wp2_with fail
  refine bodyPost_ret (by simp [results, Tryz.results126, go_sem, v0, v1, v2]; try rfl) rfl ?_
  exact ⟨rfl, Chg.of_below Bq.out⟩
set_option maxHeartbeats 4000000 in
set_option maxRecDepth 100000 in
theorem match_mk (x : Int) (m : Nat) (h1 : 1 ≤ m) (h3 : m ≤ 300) : MkX 56 [agN x, agC (m : Nat)] [agC (m : Nat)] (0 : Int) dG (fun _ => ⟨4, 6, no⟩) (PlainX isI (fun _ => True) (matT x) (fun _ => ⟨4, 6, no⟩)) := by
  refine ⟨?_, ent_of Tryz.func56 (by kernel_rfl) (by kernel_rfl), (fun s v e => by cases e), (fun a ha => by rcases List.mem_cons.1 ha with rfl | ha; exact agC_ok _ (by omega) (by omega); cases ha), by simp⟩
  intro w g cap hg hcap hrow
  have Rx := hrow 0 _ rfl
  have Rc := hrow 1 _ rfl
  obtain ⟨sl, hsl, hsl2⟩ := slice1 g 0 1 cap (by simpa using hcap)
  have hsl3 := hsl2 (by decide)
  subst hsl3
  simp only [List.length_cons, List.length_nil]
  have H1 := amiss_sought x
  have H2 := amiss_area 0 0 ((m : Int) - 1) 0 ⟨0, 0, no⟩
  have B0 := hide (Blk.new w #[.slice none 0 0, .nilFunc, .nilFunc, .nilFunc, .nilFunc, .nilFunc] 74)
  have hgl : Hid (g < w.heap.size) := hide hg
  obtain ⟨wa, hwa⟩ : ∃ wa, (w.alloc (.cells #[.slice none 0 0, .nilFunc, .nilFunc, .nilFunc, .nilFunc, .nilFunc] 74)).alloc (.cells #[.bool false, .int .i64 0, .int .i64 0, .int .i64 0, .int .i64 0, .int .i64 1, .int .i64 x, .string no] 41) = wa := ⟨_, rfl⟩
  have KA : Below w.heap.size w wa := by rw [← hwa]; exact step (step (Below.refl _ _) _) _
  have BA : Hid (Blk wa w.heap.size #[.slice none 0 0, .nilFunc, .nilFunc, .nilFunc, .nilFunc, .nilFunc] 74) := hide (by rw [← hwa]; exact (Blk.new w _ _).alloc _)
  have XA : Blk wa (w.heap.size + 1) #[.bool false, .int .i64 0, .int .i64 0, .int .i64 0, .int .i64 0, .int .i64 1, .int .i64 x, .string no] 41 := by rw [← hwa]; exact T9.Blk.new1 w _ _ _
  have hza : Hid (wa.heap.size = w.heap.size + 2) := hide (by rw [← hwa]; simp)
  have d0 : ∀ oo, (w.alloc oo).cell? ⟨g, 0, none⟩ = some (.bool false) := fun oo => keep1 (step (Below.refl w.heap.size w) oo) (by have := Rx 0 _ rfl; simpa using this)
  have d1 : ∀ oo, (w.alloc oo).cell? ⟨g, 1, none⟩ = some (.int .i64 0) := fun oo => keep1 (step (Below.refl w.heap.size w) oo) (by have := Rx 1 _ rfl; simpa using this)
  have d2 : ∀ oo, (w.alloc oo).cell? ⟨g, 2, none⟩ = some (.int .i64 0) := fun oo => keep1 (step (Below.refl w.heap.size w) oo) (by have := Rx 2 _ rfl; simpa using this)
  have d3 : ∀ oo, (w.alloc oo).cell? ⟨g, 3, none⟩ = some (.int .i64 0) := fun oo => keep1 (step (Below.refl w.heap.size w) oo) (by have := Rx 3 _ rfl; simpa using this)
  have d4 : ∀ oo, (w.alloc oo).cell? ⟨g, 4, none⟩ = some (.int .i64 0) := fun oo => keep1 (step (Below.refl w.heap.size w) oo) (by have := Rx 4 _ rfl; simpa using this)
  have d5 : ∀ oo, (w.alloc oo).cell? ⟨g, 5, none⟩ = some (.int .i64 1) := fun oo => keep1 (step (Below.refl w.heap.size w) oo) (by have := Rx 5 _ rfl; simpa using this)
  have d6 : ∀ oo, (w.alloc oo).cell? ⟨g, 6, none⟩ = some (.int .i64 x) := fun oo => keep1 (step (Below.refl w.heap.size w) oo) (by have := Rx 6 _ rfl; simpa using this)
  have d7 : ∀ oo, (w.alloc oo).cell? ⟨g, 7, none⟩ = some (.string no) := fun oo => keep1 (step (Below.refl w.heap.size w) oo) (by have := Rx 7 _ rfl; simpa using this)
  have e0 : wa.cell? ⟨w.heap.size + 1, 0, none⟩ = some (.bool false) := XA.at' 0
  have e1 : wa.cell? ⟨w.heap.size + 1, 1, none⟩ = some (.int .i64 0) := XA.at' 1
  have e2 : wa.cell? ⟨w.heap.size + 1, 2, none⟩ = some (.int .i64 0) := XA.at' 2
  have e3 : wa.cell? ⟨w.heap.size + 1, 3, none⟩ = some (.int .i64 0) := XA.at' 3
  have e4 : wa.cell? ⟨w.heap.size + 1, 4, none⟩ = some (.int .i64 0) := XA.at' 4
  have e5 : wa.cell? ⟨w.heap.size + 1, 5, none⟩ = some (.int .i64 1) := XA.at' 5
  have e6 : wa.cell? ⟨w.heap.size + 1, 6, none⟩ = some (.int .i64 x) := XA.at' 6
  have e7 : wa.cell? ⟨w.heap.size + 1, 7, none⟩ = some (.string no) := XA.at' 7
  have f0 : wa.cell? ⟨g, 8, none⟩ = some (.bool true) := keep1 KA (by have := Rc 0 _ rfl; simpa using this)
  have f1 : wa.cell? ⟨g, 9, none⟩ = some (.int .i64 0) := keep1 KA (by have := Rc 1 _ rfl; simpa using this)
  have f2 : wa.cell? ⟨g, 10, none⟩ = some (.int .i64 0) := keep1 KA (by have := Rc 2 _ rfl; simpa using this)
  have f3 : wa.cell? ⟨g, 11, none⟩ = some (.int .i64 ((m : Int) - 1)) := keep1 KA (by have := Rc 3 _ rfl; simpa using this)
  have f4 : wa.cell? ⟨g, 12, none⟩ = some (.int .i64 0) := keep1 KA (by have := Rc 4 _ rfl; simpa using this)
  have f5 : wa.cell? ⟨g, 13, none⟩ = some (.int .i64 0) := keep1 KA (by have := Rc 5 _ rfl; simpa using this)
  have f6 : wa.cell? ⟨g, 14, none⟩ = some (.int .i64 0) := keep1 KA (by have := Rc 6 _ rfl; simpa using this)
  have f7 : wa.cell? ⟨g, 15, none⟩ = some (.string no) := keep1 KA (by have := Rc 7 _ rfl; simpa using this)
  replace KA := hide KA
  replace XA := hide XA
  replace hrow := hide hrow
  clear Rx Rc
  replace hwa := hide hwa
  go_enter Tryz.func56, Tryz.ntmps56
  go_upto_region 2 with fail
  rw [hwa.out]
  clear hwa
  replace e0 := cell_regrown e0
  replace e1 := cell_regrown e1
  replace e2 := cell_regrown e2
  replace e3 := cell_regrown e3
  replace e4 := cell_regrown e4
  replace e5 := cell_regrown e5
  replace e6 := cell_regrown e6
  replace e7 := cell_regrown e7
  replace f0 := cell_regrown f0
  replace f1 := cell_regrown f1
  replace f2 := cell_regrown f2
  replace f3 := cell_regrown f3
  replace f4 := cell_regrown f4
  replace f5 := cell_regrown f5
  replace f6 := cell_regrown f6
  replace f7 := cell_regrown f7
  have kq0 := fun d' os => Calls.regrown_of (H1.out (grow (redrawn wa d') os))
  have kq1 := fun d' os => Calls.regrown_of (H2.out (grow (redrawn wa d') os))
  refine quiet_tail 6 (by kernel_rfl) (by kernel_rfl) ?_
  simp only [List.take_succ_cons, List.take_zero, List.drop_succ_cons, List.drop_zero]
  repeat (go_big_quiet_step (first | (with_reducible exact kq0 _ _) | (with_reducible exact kq1 _ _)))
  refine wpQuiet_nil ?_
  intro wq hwq
  have hbq : Hid (Below wa.heap.size wa wq) := hide (by obtain ⟨⟨dq, osq⟩, hq⟩ := hwq; rw [hq]; exact below_regrown _ dq osq)
  clear hwq e0 e1 e2 e3 e4 e5 e6 e7 f0 f1 f2 f3 f4 f5 f6 f7 kq0 kq1 d0 d1 d2 d3 d4 d5 d6 d7
  go_wp2_with fail
  refine (or_zero 2 (by decide) _ _ _ (fun j hj => ?_)).mono ?_
  · have hb := Blk.new wq #[.int .i64 0, .int .i64 0] 3
    rw [hb.at']
    match j, hj with
    | 0, _ => rfl
    | 1, _ => rfl
  rintro e w3 ⟨rfl, rfl⟩
  go_upto_region 7 with fail
  have PD := Blk.new (wq.alloc (.cells #[.int .i64 0, .int .i64 0] 3)) #[.int .i64 0] 2
  have XD := ((XA.out.keep hbq.out).alloc (.cells #[.int .i64 0, .int .i64 0] 3)).alloc (.cells #[.int .i64 0] 2)
  have BD := ((BA.out.keep hbq.out).alloc (.cells #[.int .i64 0, .int .i64 0] 3)).alloc (.cells #[.int .i64 0] 2)
  have KD := hide (step (step (next KA.out hbq.out) (.cells #[.int .i64 0, .int .i64 0] 3)) (.cells #[.int .i64 0] 2))
  rw [World.size_alloc] at PD
  obtain ⟨Bp, hBp⟩ : ∃ Bp, wq.heap.size + 1 = Bp := ⟨_, rfl⟩
  have nB : Hid (w.heap.size + 2 < Bp) := hide (by have := hbq.out.size; have := hza.out; omega)
  obtain ⟨wd, hwd⟩ : ∃ wd, (wq.alloc (.cells #[.int .i64 0, .int .i64 0] 3)).alloc (.cells #[.int .i64 0] 2) = wd := ⟨_, rfl⟩
  rw [hBp] at PD
  rw [hwd] at PD XD BD KD
  try simp only [World.size_alloc]
  rw [hBp, hwd]
  clear hwd hBp
  have z0 : wd.cell? ⟨w.heap.size, 0, none⟩ = some (.slice none 0 0) := BD.at' 0
  have z1 : wd.cell? ⟨w.heap.size, 1, none⟩ = some (.nilFunc) := BD.at' 1
  have z2 : wd.cell? ⟨w.heap.size, 2, none⟩ = some (.nilFunc) := BD.at' 2
  have z3 : wd.cell? ⟨w.heap.size, 3, none⟩ = some (.nilFunc) := BD.at' 3
  have z4 : wd.cell? ⟨w.heap.size, 4, none⟩ = some (.nilFunc) := BD.at' 4
  have z5 : wd.cell? ⟨w.heap.size, 5, none⟩ = some (.nilFunc) := BD.at' 5
  have zf := BD.fr
  have h9 := ((((((BD.set 0 (.slice (some ⟨g, 0 + 8, none⟩) 1 (cap - 1))).set 1 .nilFunc).set 2 (.func (.func 123) #[] #[.pointer (some ⟨Bp, 0, none⟩), .pointer (some ⟨w.heap.size + 1, 0, none⟩)])).set 3 .nilFunc).set 4 .nilFunc).set 5 (.func (.func 126) #[] #[]))
  have c9 := hide (((((((Chg.refl (· = w.heap.size) wd).set w.heap.size 0 (.slice (some ⟨g, 0 + 8, none⟩) 1 (cap - 1)) rfl).set w.heap.size 1 .nilFunc rfl).set w.heap.size 2 (.func (.func 123) #[] #[.pointer (some ⟨Bp, 0, none⟩), .pointer (some ⟨w.heap.size + 1, 0, none⟩)]) rfl).set w.heap.size 3 .nilFunc rfl).set w.heap.size 4 .nilFunc rfl).set w.heap.size 5 (.func (.func 126) #[] #[]) rfl)
  obtain ⟨w9, hw9⟩ : ∃ w9, ((((((wd.setCell ⟨w.heap.size, 0, none⟩ (.slice (some ⟨g, 0 + 8, none⟩) 1 (cap - 1))).setCell ⟨w.heap.size, 1, none⟩ .nilFunc).setCell ⟨w.heap.size, 2, none⟩ (.func (.func 123) #[] #[.pointer (some ⟨Bp, 0, none⟩), .pointer (some ⟨w.heap.size + 1, 0, none⟩)])).setCell ⟨w.heap.size, 3, none⟩ .nilFunc).setCell ⟨w.heap.size, 4, none⟩ .nilFunc).setCell ⟨w.heap.size, 5, none⟩ (.func (.func 126) #[] #[])) = w9 := ⟨_, rfl⟩
  rw [hw9] at h9 c9
  have y0 : w9.cell? ⟨w.heap.size, 0, none⟩ = some (.slice (some ⟨g, 0 + 8, none⟩) 1 (cap - 1)) := h9.at' 0
  have y1 : w9.cell? ⟨w.heap.size, 1, none⟩ = some .nilFunc := h9.at' 1
  have y2 : w9.cell? ⟨w.heap.size, 2, none⟩ = some (.func (.func 123) #[] #[.pointer (some ⟨Bp, 0, none⟩), .pointer (some ⟨w.heap.size + 1, 0, none⟩)]) := h9.at' 2
  have y3 : w9.cell? ⟨w.heap.size, 3, none⟩ = some .nilFunc := h9.at' 3
  have y4 : w9.cell? ⟨w.heap.size, 4, none⟩ = some .nilFunc := h9.at' 4
  have y5 : w9.cell? ⟨w.heap.size, 5, none⟩ = some (.func (.func 126) #[] #[]) := h9.at' 5
  replace h9 := hide h9
  replace PD := hide PD
  replace XD := hide XD
  clear BD
  go_wp2_with fail
  refine bodyPost_ret (v := .agg #[.slice (some ⟨g, 0 + 8, none⟩) 1 (cap - 1), .nilFunc, .func (.func 123) #[] #[.pointer (some ⟨Bp, 0, none⟩), .pointer (some ⟨w.heap.size + 1, 0, none⟩)], .nilFunc, .nilFunc, .func (.func 126) #[] #[]]) (by simp [results, Tryz.results56, go_sem, y0, y1, y2, y3, y4, y5]; try rfl) rfl ?_
  have hgb : w9.heap[g]? = w.heap[g]? := (c9.out.block g (Nat.lt_of_lt_of_le hgl.out KD.out.size) (Nat.ne_of_lt hgl.out)).trans (KD.out.block g hgl.out)
  refine ⟨⟨.nilFunc, _, .nilFunc, .nilFunc, _⟩, MatS x Bp (w.heap.size + 1), (fun k => k = Bp ∨ k = w.heap.size + 1), _, cap - 1, rfl, ⟨mat_stay _ _ _, ⟨_, _, rfl, mat2_ends _⟩, .inl (agC_isC m), ⟨rfl, rfl, rfl, rfl, rfl⟩⟩, ⟨mat_stay _ _ _, ⟨_, _, rfl, mat2_ends _⟩, ⟨_, _, rfl, mat1_does x _ _⟩⟩, ⟨c9.out.blk PD.out (by have := nB.out; omega), c9.out.blk XD.out (by omega), rfl, by have := nB.out; omega⟩, (fun k hk => by have := nB.out; omega), .inr ⟨g, 0 + 8, rfl, ⟨.inl rfl, fun e => by have := nB.out; have := hgl.out; omega, Nat.lt_of_lt_of_le (Nat.lt_of_lt_of_le hgl.out KD.out.size) c9.out.size⟩, fun j y hy => ?_⟩, by simp only [List.length_cons, List.length_nil] at hcap ⊢; omega, bel_chg KD.out (Nat.le_refl _) c9.out⟩
  have hj : j = 0 := by have := (List.getElem?_eq_some_iff.1 hy).1; simp at this; omega
  subst hj
  obtain rfl : agC (m : Nat) = y := by simpa using hy
  exact T9.range_of_block (hrow.out 1 _ rfl) hgb
end Go.Proofs.YtnpdkojhlgchlaaGreatDoor
