/- Package fold's rule of functions that count: counting, countFilled, countBlank. Proved of the Go text. -/
import Derived.Test.YtnpdkojhlgchlaaGreatDoorGvx15
import Derived.Test.YtnpdkojhlgchlaaGreatDoorBeg15
namespace Go.Proofs.YtnpdkojhlgchlaaGreatDoor
open Go.RowKit Go.Sort
open T9 (Blk Chg)
set_option linter.unusedVariables false

/-- What decides whether a value counts; it may read blocks of its own. -/
structure PredK (Q : Va → Prop) (mk : Nat → Prop) (K : World → Prop) (pf : Va → Bool) (nP : Nat) (cP : Array Value) : Prop where
  call : ∀ x w, K w → VaOk x → Q x → Calls Tryz.prog nP (#[x.v] ++ cP) w fun e w' => e = .returned (.bool (pf x)) ∧ Below w.heap.size w w'
  ent : ∀ args w, (callFunc nP args).run Tryz.prog w = .ok (.enter nP args) w
  lt : ∀ {w}, K w → ∀ k, mk k → k < w.heap.size
  same : ∀ {w w'}, K w → (∀ k, mk k → w'.heap[k]? = w.heap[k]?) → K w'
/-- Where counting's variables lie. -/
def CntS (mk : Nat → Prop) (K : World → Prop) (Bm Bg Bc nG : Nat) (cG : Array Value) (nC : Nat) (cC : Array Value) (n : Int) (m : Nat → Prop) (w : World) : Prop :=
  Blk w Bm #[.int .i64 n] 2 ∧ Blk w Bg #[.func (.func nG) #[] cG] 80 ∧ Blk w Bc #[.func (.func nC) #[] cC] 80 ∧ K w ∧ m = (fun k => k = Bm ∨ k = Bg ∨ k = Bc ∨ mk k) ∧ (Bm ≠ Bg ∧ Bm ≠ Bc ∧ ¬ mk Bm)
/-- What counting needs of the blocks that decide. -/
structure KeepK (mk : Nat → Prop) (K : World → Prop) : Prop where
  lt : ∀ {w}, K w → ∀ k, mk k → k < w.heap.size
  same : ∀ {w w'}, K w → (∀ k, mk k → w'.heap[k]? = w.heap[k]?) → K w'
theorem PredK.kk {Q : Va → Prop} {mk : Nat → Prop} {K : World → Prop} {pf : Va → Bool} {nP : Nat} {cP : Array Value} (h : PredK Q mk K pf nP cP) : KeepK mk K := ⟨h.lt, h.same⟩
theorem cnt_stay (mk : Nat → Prop) (K : World → Prop) (Bm Bg Bc nG : Nat) (cG : Array Value) (nC : Nat) (cC : Array Value) (hk : KeepK mk K) : Stay (CntS mk K Bm Bg Bc nG cG nC cC) := by
  constructor
  · intro s m w ⟨h1, h2, h3, h4, h5, _⟩ k hk'
    rw [h5] at hk'
    rcases hk' with rfl | rfl | rfl | h
    · exact h1.lt
    · exact h2.lt
    · exact h3.lt
    · exact hk.lt h4 k h
  · intro s m w w' ⟨h1, h2, h3, h4, h5, h6⟩ hb
    subst h5
    exact ⟨(hb _ (.inl rfl)).trans h1, (hb _ (.inr (.inl rfl))).trans h2, (hb _ (.inr (.inr (.inl rfl)))).trans h3, hk.same h4 (fun k h => hb k (.inr (.inr (.inr h)))), rfl, h6⟩
def cntT (pf : Va → Bool) (n : Int) (x : Va) : Stp × Int := (.on, if pf x then wrap64 (n + 1) else n)
theorem cntT_nb (pf : Va → Bool) (s : Int) (x : Va) : (cntT pf s x).1 ≠ .bes := fun h => by cases h
theorem cnt_mid {mk : Nat → Prop} {K : World → Prop} {Bm Bg Bc nG : Nat} {cG : Array Value} {nC : Nat} {cC : Array Value} (hk : KeepK mk K) {n z : Int} {m : Nat → Prop} {w w1 w2 : World} {X : Nat} (hs : CntS mk K Bm Bg Bc nG cG nC cC n m w) (hb : Below w.heap.size w w1) (hX : w.heap.size ≤ X) (h2 : Blk w2 Bm #[.int .i64 z] 2) (c2 : Chg (· = Bm) w1 w2) : ∃ m', CntS mk K Bm Bg Bc nG cG nC cC z m' w2 ∧ Grw m m' w ∧ Chg m w w2 ∧ ¬ m' X := by
  have hl := blk_low (cnt_stay mk K Bm Bg Bc nG cG nC cC hk) hs hX
  obtain ⟨g1, g2, g3, g4, g5, g6⟩ := hs
  refine ⟨m, ⟨h2, c2.blk (g2.keep hb) (Ne.symm g6.1), c2.blk (g3.keep hb) (Ne.symm g6.2.1), hk.same g4 (fun k h => ?_), g5, g6⟩, Grw.refl _ _, (Chg.of_below hb : Chg m w w1).trans (chg_of c2 (fun k e => ?_)), hl⟩
  · have hlt := hk.lt g4 k h
    exact (c2.block k (Nat.lt_of_lt_of_le hlt hb.size) (fun e => g6.2.2 (e ▸ h))).trans (hb.block k hlt)
  · rw [g5]; exact .inl e
set_option maxHeartbeats 2000000 in
set_option maxRecDepth 100000 in
theorem cnt1_does (Q : Va → Prop) (mk : Nat → Prop) (K : World → Prop) (Bm Bg Bc nG : Nat) (cG : Array Value) (nC : Nat) (cC : Array Value) (pf : Va → Bool) (nP : Nat) (cP : Array Value) (HP : PredK Q mk K pf nP cP) (Bx : Nat) (hbx : ∀ s m w, CntS mk K Bm Bg Bc nG cG nC cC s m w → Blk w Bx #[.func (.func nP) #[] cP] 80) : DoesQ (fun _ x => Q x) (CntS mk K Bm Bg Bc nG cG nC cC) (cntT pf) 163 #[.pointer (some ⟨Bx, 0, none⟩), .pointer (some ⟨Bm, 0, none⟩)] := by
  refine ⟨?_, ent_of Tryz.func163 (by kernel_rfl) (by kernel_rfl)⟩
  intro n m x w hs hx hq
  obtain ⟨k, i, t⟩ := x
  have hent := HP.ent
  have hkk := hide HP.kk
  have hS := hide (cnt_stay mk K Bm Bg Bc nG cG nC cC hkk.out)
  have hB := hide (hbx n m w hs)
  have hM := hide hs.1
  have K1 := hide (step (step (Below.refl w.heap.size w) (vO k i t)) (stO false false 0 0 no))
  have X1 : Hid (Blk ((w.alloc (vO k i t)).alloc (stO false false 0 0 no)) (w.heap.size + 1) #[.bool false, .bool false, .int .i64 0, .int .i64 0, .string no] 82) := hide (T9.Blk.new1 w (vO k i t) _ _)
  have bx : ((w.alloc (vO k i t)).alloc (stO false false 0 0 no)).cell? ⟨Bx, 0, none⟩ = some (.func (.func nP) #[] cP) := ((hB.out.alloc _).alloc _).at' 0
  have HC := hide (HP.call ⟨k, i, t⟩ ((w.alloc (vO k i t)).alloc (stO false false 0 0 no)) (hkk.out.same hs.2.2.2.1 (fun k h => K1.out.block k (hkk.out.lt hs.2.2.2.1 k h))) hx hq)
  have nX : Hid (w.heap.size + 1 ≠ Bm) := hide (by have := hM.out.lt; omega)
  replace hs := hide hs
  obtain ⟨z, hz⟩ : ∃ z, wrap64 (n + 1) = z := ⟨_, rfl⟩
  unfold cntT
  rw [hz]
  clear hbx HP hx hq
  obtain ⟨b, hb⟩ : ∃ b, pf ⟨k, i, t⟩ = b := ⟨_, rfl⟩
  rw [hb] at HC ⊢
  clear hb
  cases b with
  | true =>
    go_enter Tryz.func163, Tryz.ntmps163
    go_wp2_with fail
    refine HC.out.mono ?_
    rintro e w1 ⟨rfl, hb1⟩
    have K2 := hide (next K1.out hb1)
    have X2 := hide (X1.out.keep hb1)
    have M2 := hM.out.keep K2.out
    have a1 : w1.cell? ⟨Bm, 0, none⟩ = some (.int .i64 n) := M2.at' 0
    have ft := M2.fr 0
    have M3 := hide (M2.set 0 (.int .i64 z))
    have C3 := hide ((Chg.refl (· = Bm) w1).set Bm 0 (.int .i64 z) rfl)
    obtain ⟨w4, hw4⟩ : ∃ w4, w1.setCell ⟨Bm, 0, none⟩ (.int .i64 z) = w4 := ⟨_, rfl⟩
    rw [hw4] at M3 C3
    clear hb1 M2 bx
    have hX2 := hide (C3.out.blk X2.out nX.out)
    have z0 : w4.cell? ⟨w.heap.size + 1, 0, none⟩ = some (.bool false) := hX2.out.at' 0
    have z1 : w4.cell? ⟨w.heap.size + 1, 1, none⟩ = some (.bool false) := hX2.out.at' 1
    have z2 : w4.cell? ⟨w.heap.size + 1, 2, none⟩ = some (.int .i64 0) := hX2.out.at' 2
    have z3 : w4.cell? ⟨w.heap.size + 1, 3, none⟩ = some (.int .i64 0) := hX2.out.at' 3
    have z4 : w4.cell? ⟨w.heap.size + 1, 4, none⟩ = some (.string no) := hX2.out.at' 4
    have zf := hX2.out.fr
    have h3 := blk5 hX2.out (.bool false) (.bool false) (.int .i64 0) (.int .i64 0) (.string no)
    have c3 := hide (chg5 w4 (w.heap.size + 1) (.bool false) (.bool false) (.int .i64 0) (.int .i64 0) (.string no))
    obtain ⟨w9, hw9⟩ : ∃ w9, put5 w4 (w.heap.size + 1) (.bool false) (.bool false) (.int .i64 0) (.int .i64 0) (.string no) = w9 := ⟨_, rfl⟩
    rw [hw9] at h3 c3
    unfold put5 at hw9
    have y0 : w9.cell? ⟨w.heap.size + 1, 0, none⟩ = some (.bool false) := h3.at' 0
    have y1 : w9.cell? ⟨w.heap.size + 1, 1, none⟩ = some (.bool false) := h3.at' 1
    have y2 : w9.cell? ⟨w.heap.size + 1, 2, none⟩ = some (.int .i64 0) := h3.at' 2
    have y3 : w9.cell? ⟨w.heap.size + 1, 3, none⟩ = some (.int .i64 0) := h3.at' 3
    have y4 : w9.cell? ⟨w.heap.size + 1, 4, none⟩ = some (.string no) := h3.at' 4
    replace h3 := hide h3
    go_wp2_with fail
    refine bodyPost_ret (by simp [results, Tryz.results163, go_sem, y0, y1, y2, y3, y4]; try rfl) rfl ?_
    exact ⟨rfl, end5 hS.out (Nat.le_succ _) (cnt_mid hkk.out hs.out K2.out (Nat.le_succ _) M3.out C3.out) c3.out⟩
  | false =>
    go_enter Tryz.func163, Tryz.ntmps163
    go_wp2_with fail
    refine HC.out.mono ?_
    rintro e w1 ⟨rfl, hb1⟩
    have K2 := hide (next K1.out hb1)
    clear bx hz
    have hX2 := hide (X1.out.keep hb1)
    have z0 : w1.cell? ⟨w.heap.size + 1, 0, none⟩ = some (.bool false) := hX2.out.at' 0
    have z1 : w1.cell? ⟨w.heap.size + 1, 1, none⟩ = some (.bool false) := hX2.out.at' 1
    have z2 : w1.cell? ⟨w.heap.size + 1, 2, none⟩ = some (.int .i64 0) := hX2.out.at' 2
    have z3 : w1.cell? ⟨w.heap.size + 1, 3, none⟩ = some (.int .i64 0) := hX2.out.at' 3
    have z4 : w1.cell? ⟨w.heap.size + 1, 4, none⟩ = some (.string no) := hX2.out.at' 4
    have zf := hX2.out.fr
    have h3 := blk5 hX2.out (.bool false) (.bool false) (.int .i64 0) (.int .i64 0) (.string no)
    have c3 := hide (chg5 w1 (w.heap.size + 1) (.bool false) (.bool false) (.int .i64 0) (.int .i64 0) (.string no))
    obtain ⟨w9, hw9⟩ : ∃ w9, put5 w1 (w.heap.size + 1) (.bool false) (.bool false) (.int .i64 0) (.int .i64 0) (.string no) = w9 := ⟨_, rfl⟩
    rw [hw9] at h3 c3
    unfold put5 at hw9
    have y0 : w9.cell? ⟨w.heap.size + 1, 0, none⟩ = some (.bool false) := h3.at' 0
    have y1 : w9.cell? ⟨w.heap.size + 1, 1, none⟩ = some (.bool false) := h3.at' 1
    have y2 : w9.cell? ⟨w.heap.size + 1, 2, none⟩ = some (.int .i64 0) := h3.at' 2
    have y3 : w9.cell? ⟨w.heap.size + 1, 3, none⟩ = some (.int .i64 0) := h3.at' 3
    have y4 : w9.cell? ⟨w.heap.size + 1, 4, none⟩ = some (.string no) := h3.at' 4
    replace h3 := hide h3
    go_wp2_with fail
    refine bodyPost_ret (by simp [results, Tryz.results163, go_sem, y0, y1, y2, y3, y4]; try rfl) rfl ?_
    exact ⟨rfl, end5 hS.out (Nat.le_succ _) (bel5 hS.out hs.out K2.out (Nat.le_succ _)) c3.out⟩
set_option maxHeartbeats 1000000 in
theorem cntL_ends (mk : Nat → Prop) (K : World → Prop) (Bm Bg Bc nG : Nat) (cG : Array Value) (nC : Nat) (cC : Array Value) : Ends (CntS mk K Bm Bg Bc nG cG nC cC) (fun n => ⟨1, n, no⟩) 164 #[.pointer (some ⟨Bm, 0, none⟩)] := by
  refine ⟨?_, ent_of Tryz.func164 (by kernel_rfl) (by kernel_rfl)⟩
  intro n m w hs
  have HN := fnum_is n
  have bt : (w.alloc (vO 0 0 no)).cell? ⟨Bm, 0, none⟩ = some (.int .i64 n) := (hs.1.alloc _).at' 0
  replace hs := hide hs
  go_enter Tryz.func164, Tryz.ntmps164
  go_wp2_with fail
  refine (HN.out _).mono ?_
  rintro e w1 ⟨rfl, hb1⟩
  have B1 := hide (next (step (Below.refl w.heap.size w) _) hb1)
  have cr := hide ((O3.new w (.int .i64 0) (.int .i64 0) (.string no) 31).keep hb1)
  have u0 := cr.out.1.1
  have u1 := cr.out.1.2.1
  have u2 := cr.out.1.2.2
  have uf := cr.out.2
  have Bq := hide (below_put3 (b := w.heap.size) B1.out (Nat.le_refl _) (.int .i64 1) (.int .i64 n) (.string no))
  replace cr := hide (cr.out.put (.int .i64 1) (.int .i64 n) (.string no))
  obtain ⟨wq, hwq⟩ : ∃ wq, put3 w1 w.heap.size (.int .i64 1) (.int .i64 n) (.string no) = wq := ⟨_, rfl⟩
  rw [hwq] at Bq cr
  unfold put3 at hwq
  have v0 := cr.out.1.1
  have v1 := cr.out.1.2.1
  have v2 := cr.out.1.2.2
  clear hb1 bt
  go_wp2_with fail
  refine bodyPost_ret (by simp [results, Tryz.results164, go_sem, v0, v1, v2]; try rfl) rfl ?_
  exact ⟨rfl, Chg.of_below Bq.out⟩
set_option maxHeartbeats 1000000 in
theorem when_is (nP : Nat) (cP : Array Value) (Bm : Nat) (w : World) : Calls Tryz.prog 162 #[.func (.func nP) #[] cP, .pointer (some ⟨Bm, 0, none⟩)] w fun e w' => e = .returned (.func (.func 163) #[] #[.pointer (some ⟨w.heap.size, 0, none⟩), .pointer (some ⟨Bm, 0, none⟩)]) ∧ w' = w.alloc (.cells #[.func (.func nP) #[] cP] 80) := by
  go_enter Tryz.func162, Tryz.ntmps162
  go_wp2_with fail
  go_ret
  exact ⟨rfl, rfl⟩
set_option maxHeartbeats 2000000 in
set_option maxRecDepth 100000 in
theorem counting_is (a : Option Addr) (len cap nG : Nat) (cG : Array Value) (nC : Nat) (cC : Array Value) (w : World) : Calls Tryz.prog 96 #[.slice a len cap, .func (.func nG) #[] cG, .func (.func nC) #[] cC] w fun e w' => e = .returned (.agg #[.slice a len cap, .func (.func 163) #[] #[.pointer (some ⟨w.heap.size + 1 + 1, 0, none⟩), .pointer (some ⟨w.heap.size + 1, 0, none⟩)], .func (.func 163) #[] #[.pointer (some ⟨w.heap.size + 1 + 1 + 1, 0, none⟩), .pointer (some ⟨w.heap.size + 1, 0, none⟩)], .nilFunc, .nilFunc, .func (.func 164) #[] #[.pointer (some ⟨w.heap.size + 1, 0, none⟩)]]) ∧ w' = (((w.alloc (.cells #[.slice a len cap, .func (.func 163) #[] #[.pointer (some ⟨w.heap.size + 1 + 1, 0, none⟩), .pointer (some ⟨w.heap.size + 1, 0, none⟩)], .func (.func 163) #[] #[.pointer (some ⟨w.heap.size + 1 + 1 + 1, 0, none⟩), .pointer (some ⟨w.heap.size + 1, 0, none⟩)], .nilFunc, .nilFunc, .func (.func 164) #[] #[.pointer (some ⟨w.heap.size + 1, 0, none⟩)]] 74)).alloc (.cells #[.int .i64 0] 2)).alloc (.cells #[.func (.func nG) #[] cG] 80)).alloc (.cells #[.func (.func nC) #[] cC] 80) := by
  have hent := ent_of Tryz.func162 (by kernel_rfl) (by kernel_rfl)
  have H1 := hide (fun w => when_is nG cG (w.heap.size) w)
  go_enter Tryz.func96, Tryz.ntmps96
  go_wp2_with fail
  refine (when_is _ _ _ _).mono ?_
  rintro e w1 ⟨rfl, rfl⟩
  go_wp2_with fail
  refine (when_is _ _ _ _).mono ?_
  rintro e w1 ⟨rfl, rfl⟩
  go_wp2_with fail
  refine bodyPost_ret (v := .agg #[.slice a len cap, .func (.func 163) #[] #[.pointer (some ⟨w.heap.size + 1 + 1, 0, none⟩), .pointer (some ⟨w.heap.size + 1, 0, none⟩)], .func (.func 163) #[] #[.pointer (some ⟨w.heap.size + 1 + 1 + 1, 0, none⟩), .pointer (some ⟨w.heap.size + 1, 0, none⟩)], .nilFunc, .nilFunc, .func (.func 164) #[] #[.pointer (some ⟨w.heap.size + 1, 0, none⟩)]]) (by simp [results, Tryz.results96, go_sem]; try rfl) rfl ?_
  exact ⟨rfl, rfl⟩
set_option maxHeartbeats 400000 in
theorem blank_is (k i : Int) (t : ByteArray) : CallIs 99 #[vV k i t] (.bool (k == 0)) := by
  intro w
  go_enter Tryz.func99, Tryz.ntmps99
  go_wp2_with fail
  go_ret
  exact ⟨rfl, by go_grown⟩
set_option maxHeartbeats 400000 in
theorem filled_is (k i : Int) (t : ByteArray) : CallIs 98 #[vV k i t] (.bool (!(k == 0))) := by
  intro w
  have HB := blank_is k i t
  have K1 := hide (step (Below.refl w.heap.size w) (vO k i t))
  go_enter Tryz.func98, Tryz.ntmps98
  go_wp2_with fail
  refine (HB.out _).mono ?_
  rintro e w1 ⟨rfl, hb1⟩
  have K2 := hide (next K1.out hb1)
  go_wp2_with fail
  go_ret
  exact ⟨rfl, K2.out⟩
theorem DoesQ.all {σ : Type} {S : σ → (Nat → Prop) → World → Prop} {st : σ → Va → Stp × σ} {n : Nat} {caps : Array Value} (h : DoesQ (fun _ _ => True) S st n caps) : Does S st n caps := ⟨fun s m x w a b => h.call s m x w a b trivial, h.ent⟩
theorem isBlankK : PredK (fun _ => True) (fun _ => False) (fun _ => True) (fun x => x.k == 0) 99 #[] := by
  refine ⟨fun x w _ _ _ => ?_, ent_of Tryz.func99 (by kernel_rfl) (by kernel_rfl), (fun _ k h => h.elim), fun _ _ => trivial⟩
  exact blank_is x.k x.i x.t w
theorem isFilledK : PredK (fun _ => True) (fun _ => False) (fun _ => True) (fun x => !(x.k == 0)) 98 #[] := by
  refine ⟨fun x w _ _ _ => ?_, ent_of Tryz.func98 (by kernel_rfl) (by kernel_rfl), (fun _ k h => h.elim), fun _ _ => trivial⟩
  exact filled_is x.k x.i x.t w
set_option maxHeartbeats 2000000 in
set_option maxRecDepth 100000 in
theorem countFilled_is (a : Option Addr) (len cap : Nat) (w : World) : Calls Tryz.prog 43 #[.slice a len cap] w fun e w' => e = .returned (.agg #[.slice a len cap, .func (.func 163) #[] #[.pointer (some ⟨w.heap.size + 3, 0, none⟩), .pointer (some ⟨w.heap.size + 2, 0, none⟩)], .func (.func 163) #[] #[.pointer (some ⟨w.heap.size + 4, 0, none⟩), .pointer (some ⟨w.heap.size + 2, 0, none⟩)], .nilFunc, .nilFunc, .func (.func 164) #[] #[.pointer (some ⟨w.heap.size + 2, 0, none⟩)]]) ∧ CntS (fun _ => False) (fun _ => True) (w.heap.size + 2) (w.heap.size + 3) (w.heap.size + 4) 98 #[] 98 #[] 0 (fun k => k = w.heap.size + 2 ∨ k = w.heap.size + 3 ∨ k = w.heap.size + 4 ∨ False) w' ∧ Below w.heap.size w w' := by
  go_enter Tryz.func43, Tryz.ntmps43
  go_wp2_with fail
  refine (counting_is _ _ _ _ _ _ _ _).mono ?_
  rintro e w1 ⟨rfl, rfl⟩
  go_wp2_with fail
  refine bodyPost_ret (v := .agg #[.slice a len cap, .func (.func 163) #[] #[.pointer (some ⟨w.heap.size + 3, 0, none⟩), .pointer (some ⟨w.heap.size + 2, 0, none⟩)], .func (.func 163) #[] #[.pointer (some ⟨w.heap.size + 4, 0, none⟩), .pointer (some ⟨w.heap.size + 2, 0, none⟩)], .nilFunc, .nilFunc, .func (.func 164) #[] #[.pointer (some ⟨w.heap.size + 2, 0, none⟩)]]) (by simp [results, Tryz.results43, go_sem]; try rfl) rfl ?_
  refine ⟨rfl, ⟨((blk_at _ _ (by simp) _ _).alloc _).alloc _, (blk_at _ _ (by simp) _ _).alloc _, blk_at _ _ (by simp) _ _, trivial, rfl, by omega, by omega, fun h => h⟩, by go_grown⟩
theorem countFilled_mkis : MkIs 43 (0 : Int) (cntT (fun x => !(x.k == 0))) (cntT (fun x => !(x.k == 0))) (fun n => ⟨1, n, no⟩) := by
  refine ⟨fun w a len cap => (countFilled_is a len cap w).mono fun e w' ⟨h1, h2, h3⟩ => ?_, ent_of Tryz.func43 (by kernel_rfl) (by kernel_rfl), cntT_nb _, cntT_nb _⟩
  refine ⟨_, _, _, _, _, _, _, _, h1, ⟨cnt_stay _ _ _ _ _ _ _ _ _ isFilledK.kk, ⟨_, _, rfl, cntL_ends _ _ _ _ _ _ _ _ _⟩, ⟨_, _, rfl, (cnt1_does (fun _ => True) _ _ _ _ _ _ _ _ _ (fun x => !(x.k == 0)) _ _ isFilledK _ (fun s m w h => h.2.2.1)).all⟩, ⟨_, _, rfl, (cnt1_does (fun _ => True) _ _ _ _ _ _ _ _ _ (fun x => !(x.k == 0)) _ _ isFilledK _ (fun s m w h => h.2.1)).all⟩⟩, h2, fun k hk => by rcases hk with h | h | h | h; omega; omega; omega; exact h.elim, h3⟩
set_option maxHeartbeats 2000000 in
set_option maxRecDepth 100000 in
theorem countBlank_is (a : Option Addr) (len cap : Nat) (w : World) : Calls Tryz.prog 44 #[.slice a len cap] w fun e w' => e = .returned (.agg #[.slice a len cap, .func (.func 163) #[] #[.pointer (some ⟨w.heap.size + 3, 0, none⟩), .pointer (some ⟨w.heap.size + 2, 0, none⟩)], .func (.func 163) #[] #[.pointer (some ⟨w.heap.size + 4, 0, none⟩), .pointer (some ⟨w.heap.size + 2, 0, none⟩)], .nilFunc, .nilFunc, .func (.func 164) #[] #[.pointer (some ⟨w.heap.size + 2, 0, none⟩)]]) ∧ CntS (fun _ => False) (fun _ => True) (w.heap.size + 2) (w.heap.size + 3) (w.heap.size + 4) 99 #[] 99 #[] 0 (fun k => k = w.heap.size + 2 ∨ k = w.heap.size + 3 ∨ k = w.heap.size + 4 ∨ False) w' ∧ Below w.heap.size w w' := by
  go_enter Tryz.func44, Tryz.ntmps44
  go_wp2_with fail
  refine (counting_is _ _ _ _ _ _ _ _).mono ?_
  rintro e w1 ⟨rfl, rfl⟩
  go_wp2_with fail
  refine bodyPost_ret (v := .agg #[.slice a len cap, .func (.func 163) #[] #[.pointer (some ⟨w.heap.size + 3, 0, none⟩), .pointer (some ⟨w.heap.size + 2, 0, none⟩)], .func (.func 163) #[] #[.pointer (some ⟨w.heap.size + 4, 0, none⟩), .pointer (some ⟨w.heap.size + 2, 0, none⟩)], .nilFunc, .nilFunc, .func (.func 164) #[] #[.pointer (some ⟨w.heap.size + 2, 0, none⟩)]]) (by simp [results, Tryz.results44, go_sem]; try rfl) rfl ?_
  refine ⟨rfl, ⟨((blk_at _ _ (by simp) _ _).alloc _).alloc _, (blk_at _ _ (by simp) _ _).alloc _, blk_at _ _ (by simp) _ _, trivial, rfl, by omega, by omega, fun h => h⟩, by go_grown⟩
theorem countBlank_mkis : MkIs 44 (0 : Int) (cntT (fun x => x.k == 0)) (cntT (fun x => x.k == 0)) (fun n => ⟨1, n, no⟩) := by
  refine ⟨fun w a len cap => (countBlank_is a len cap w).mono fun e w' ⟨h1, h2, h3⟩ => ?_, ent_of Tryz.func44 (by kernel_rfl) (by kernel_rfl), cntT_nb _, cntT_nb _⟩
  refine ⟨_, _, _, _, _, _, _, _, h1, ⟨cnt_stay _ _ _ _ _ _ _ _ _ isBlankK.kk, ⟨_, _, rfl, cntL_ends _ _ _ _ _ _ _ _ _⟩, ⟨_, _, rfl, (cnt1_does (fun _ => True) _ _ _ _ _ _ _ _ _ (fun x => x.k == 0) _ _ isBlankK _ (fun s m w h => h.2.2.1)).all⟩, ⟨_, _, rfl, (cnt1_does (fun _ => True) _ _ _ _ _ _ _ _ _ (fun x => x.k == 0) _ _ isBlankK _ (fun s m w h => h.2.1)).all⟩⟩, h2, fun k hk => by rcases hk with h | h | h | h; omega; omega; omega; exact h.elim, h3⟩
end Go.Proofs.YtnpdkojhlgchlaaGreatDoor
