/- Package fold's rule of functions that gather numbers, for whatever is done with each; into, ofNumbers, gathering. Proved of the Go text. -/
import Derived.Test.YtnpdkojhlgchlaaGreatDoorNum15
namespace Go.Proofs.YtnpdkojhlgchlaaGreatDoor
open Go.RowKit Go.Sort
open T9 (Blk Chg)
set_option linter.unusedVariables false

/-- What is done with a number. -/
structure Tak {σ : Type} (S : σ → (Nat → Prop) → World → Prop) (tk : σ → Int → Stp × σ) (n : Nat) (caps : Array Value) : Prop where
  call : ∀ s m x w, S s m w → -9223372036854775808 ≤ x → x ≤ 9223372036854775807 → Calls Tryz.prog n (#[.int .i64 x] ++ caps) w fun e w' => e = .returned (stV (tk s x).1) ∧ ∃ m', S (tk s x).2 m' w' ∧ Grw m m' w ∧ Chg m w w'
  ent : ∀ args w, (callFunc n args).run Tryz.prog w = .ok (.enter n args) w
/-- A cell's value of a function that gathers numbers; a given one. -/
def celN {σ : Type} (tk : σ → Int → Stp × σ) (s : σ) (x : Va) : Stp × σ := if x.k = 1 then tk s x.i else if x.k = 4 then (.ends x, s) else (.on, s)
def givN {σ : Type} (nm : Va → Int × Int) (tk : σ → Int → Stp × σ) (s : σ) (x : Va) : Stp × σ := if (nm x).2 = 0 then tk s (nm x).1 else (.ends ⟨4, (nm x).2, no⟩, s)
theorem ent_of {n : Nat} {fn : Func} (hf : Tryz.prog.funcs[n]? = some fn) (hn : (fn.name == "runtime.NumGoroutine") = false) (hb : fn.body.isNone = false) : ∀ args w, (callFunc n args).run Tryz.prog w = .ok (.enter n args) w := fun args w => T9.enters hf hn hb args w
theorem sm_of {σ : Type} {S : σ → (Nat → Prop) → World → Prop} (hS : Stay S) {s : σ} {m : Nat → Prop} {w w' : World} (h : S s m w) (hb : Below w.heap.size w w') : S s m w' := hS.same h (fun k hk => hb.block k (hS.lt h k hk))
theorem blk_low {σ : Type} {S : σ → (Nat → Prop) → World → Prop} (hS : Stay S) {s : σ} {m : Nat → Prop} {w : World} (h : S s m w) {b : Nat} (hb : w.heap.size ≤ b) : ¬ m b := fun e => Nat.lt_irrefl _ (Nat.lt_of_lt_of_le (hS.lt h b e) hb)
/-- What is left behind a call, and then a whole step is written into a block that is nobody's. -/
theorem end5 {σ : Type} {S : σ → (Nat → Prop) → World → Prop} (hS : Stay S) {m : Nat → Prop} {w w2 w3 : World} {X : Nat} {s : σ} (hX : w.heap.size ≤ X) (h : ∃ m', S s m' w2 ∧ Grw m m' w ∧ Chg m w w2 ∧ ¬ m' X) (hc : Chg (· = X) w2 w3) : ∃ m', S s m' w3 ∧ Grw m m' w ∧ Chg m w w3 := by
  obtain ⟨m', h1, h2, h3, h4⟩ := h
  refine ⟨m', hS.same h1 (fun k hk => hc.block k (hS.lt h1 k hk) (fun e => h4 (e ▸ hk))), h2, ?_⟩
  exact ⟨hc.os.trans h3.os, hc.tape.trans h3.tape, hc.output.trans h3.output, Nat.le_trans h3.size hc.size, fun k hk hm => (hc.block k (Nat.lt_of_lt_of_le hk h3.size) (by omega)).trans (h3.block k hk hm)⟩
/-- A step written into a block. -/
abbrev put5 (w : World) (X : Nat) (a b c d e : Value) : World := ((((w.setCell ⟨X, 0, none⟩ a).setCell ⟨X, 1, none⟩ b).setCell ⟨X, 2, none⟩ c).setCell ⟨X, 3, none⟩ d).setCell ⟨X, 4, none⟩ e
theorem blk5 {w : World} {X : Nat} {t : TypeId} {a0 b0 c0 d0 e0 : Value} (h : Blk w X #[a0, b0, c0, d0, e0] t) (a b c d e : Value) : Blk (put5 w X a b c d e) X #[a, b, c, d, e] t := ((((h.set 0 a).set 1 b).set 2 c).set 3 d).set 4 e
theorem chg5 (w : World) (X : Nat) (a b c d e : Value) : Chg (· = X) w (put5 w X a b c d e) := (((((Chg.refl (· = X) w).set X 0 a rfl).set X 1 b rfl).set X 2 c rfl).set X 3 d rfl).set X 4 e rfl
theorem mid5 {σ : Type} {S : σ → (Nat → Prop) → World → Prop} (hS : Stay S) {s s2 : σ} {m : Nat → Prop} {w w1 w2 : World} {X : Nat} (hs : S s m w) (hb : Below w.heap.size w w1) (h1 : w.heap.size ≤ X) (h2 : X < w1.heap.size) (hg : ∃ m', S s2 m' w2 ∧ Grw m m' w1 ∧ Chg m w1 w2) : ∃ m', S s2 m' w2 ∧ Grw m m' w ∧ Chg m w w2 ∧ ¬ m' X := by
  obtain ⟨m', g1, g2, g3⟩ := hg
  refine ⟨m', g1, fun k hk => ?_, (Chg.of_below hb : Chg m w w1).trans g3, fun e => ?_⟩
  · rcases g2 k hk with h | h
    · exact .inl h
    · exact .inr (Nat.le_trans hb.size h)
  · rcases g2 X e with h | h
    · exact blk_low hS hs h1 h
    · omega
theorem bel5 {σ : Type} {S : σ → (Nat → Prop) → World → Prop} (hS : Stay S) {s : σ} {m : Nat → Prop} {w w2 : World} {X : Nat} (hs : S s m w) (hb : Below w.heap.size w w2) (h1 : w.heap.size ≤ X) : ∃ m', S s m' w2 ∧ Grw m m' w ∧ Chg m w w2 ∧ ¬ m' X := ⟨m, sm_of hS hs hb, Grw.refl _ _, Chg.of_below hb, blk_low hS hs h1⟩
theorem zero5 {m : Nat → Prop} {w1 w2 : World} {X : Nat} (hz : Blk w1 X #[.bool false, .bool false, .int .i64 0, .int .i64 0, .string no] 82) (hn : ¬ m X) {σ : Type} {S : σ → (Nat → Prop) → World → Prop} {s2 : σ} (hg : ∃ m', S s2 m' w2 ∧ Grw m m' w1 ∧ Chg m w1 w2) : Blk w2 X #[.bool false, .bool false, .int .i64 0, .int .i64 0, .string no] 82 := hg.elim fun _ h => h.2.2.blk hz hn
set_option maxHeartbeats 2000000 in
set_option maxRecDepth 100000 in
theorem ofn_does {σ : Type} {S : σ → (Nat → Prop) → World → Prop} (hS : Stay S) (tk : σ → Int → Stp × σ) (nT : Nat) (capsT : Array Value) (HT : Tak S tk nT capsT) (Bk : Nat) (hbk : ∀ s m w, S s m w → Blk w Bk #[.func (.func nT) #[] capsT] 114) (hnb : ∀ s x, (tk s x).1 ≠ .bes) : Does S (celN tk) 188 #[.pointer (some ⟨Bk, 0, none⟩)] := by
  refine ⟨?_, ent_of Tryz.func188 (by kernel_rfl) (by kernel_rfl)⟩
  intro s m x w hs hx
  obtain ⟨k, i, t⟩ := x
  have hent := HT.ent
  have hk := hide (hbk s m w hs)
  have K1 := hide (step (step (Below.refl w.heap.size w) (vO k i t)) (stO false false 0 0 no))
  have X1 : Hid (Blk ((w.alloc (vO k i t)).alloc (stO false false 0 0 no)) (w.heap.size + 1) #[.bool false, .bool false, .int .i64 0, .int .i64 0, .string no] 82) := hide (T9.Blk.new1 w (vO k i t) _ _)
  have hsz : Hid (w.heap.size + 1 < ((w.alloc (vO k i t)).alloc (stO false false 0 0 no)).heap.size) := hide (by simp)
  have bk : ((w.alloc (vO k i t)).alloc (stO false false 0 0 no)).cell? ⟨Bk, 0, none⟩ = some (.func (.func nT) #[] capsT) := ((hk.out.alloc _).alloc _).at' 0
  have hi := hx.2
  have HC := hide (HT.call s m i _ (sm_of hS hs K1.out) hi.1 hi.2)
  replace hS := hide hS
  replace hs := hide hs
  clear hbk HT hi hx
  by_cases k1 : k = 1
  · subst k1
    have he : celN tk s ⟨1, i, t⟩ = tk s i := if_pos rfl
    rw [he]
    have hb := hnb s i
    generalize tk s i = p at *
    obtain ⟨p1, s2⟩ := p
    cases p1 with
    | bes => exact absurd rfl hb
    | on =>
      go_enter Tryz.func188, Tryz.ntmps188
      go_wp2_with fail
      refine HC.out.mono ?_
      rintro e w2 ⟨rfl, hg⟩
      replace hg := hide hg
      simp only [stV]
      have hX2 := hide (zero5 X1.out (blk_low hS.out hs.out (Nat.le_succ _)) hg.out)
      have z0 : w2.cell? ⟨w.heap.size + 1, 0, none⟩ = some (.bool false) := hX2.out.at' 0
      have z1 : w2.cell? ⟨w.heap.size + 1, 1, none⟩ = some (.bool false) := hX2.out.at' 1
      have z2 : w2.cell? ⟨w.heap.size + 1, 2, none⟩ = some (.int .i64 0) := hX2.out.at' 2
      have z3 : w2.cell? ⟨w.heap.size + 1, 3, none⟩ = some (.int .i64 0) := hX2.out.at' 3
      have z4 : w2.cell? ⟨w.heap.size + 1, 4, none⟩ = some (.string no) := hX2.out.at' 4
      have zf := hX2.out.fr
      have h3 := blk5 hX2.out (.bool false) (.bool false) (.int .i64 0) (.int .i64 0) (.string no)
      have c3 := hide (chg5 w2 (w.heap.size + 1) (.bool false) (.bool false) (.int .i64 0) (.int .i64 0) (.string no))
      obtain ⟨w9, hw9⟩ : ∃ w9, put5 w2 (w.heap.size + 1) (.bool false) (.bool false) (.int .i64 0) (.int .i64 0) (.string no) = w9 := ⟨_, rfl⟩
      rw [hw9] at h3 c3
      unfold put5 at hw9
      have y0 : w9.cell? ⟨w.heap.size + 1, 0, none⟩ = some (.bool false) := h3.at' 0
      have y1 : w9.cell? ⟨w.heap.size + 1, 1, none⟩ = some (.bool false) := h3.at' 1
      have y2 : w9.cell? ⟨w.heap.size + 1, 2, none⟩ = some (.int .i64 0) := h3.at' 2
      have y3 : w9.cell? ⟨w.heap.size + 1, 3, none⟩ = some (.int .i64 0) := h3.at' 3
      have y4 : w9.cell? ⟨w.heap.size + 1, 4, none⟩ = some (.string no) := h3.at' 4
      replace h3 := hide h3
      go_wp2_with fail
      refine bodyPost_ret (by simp [results, Tryz.results188, go_sem, y0, y1, y2, y3, y4]; try rfl) rfl ?_
      exact ⟨rfl, end5 hS.out (Nat.le_succ _) (mid5 hS.out hs.out K1.out (Nat.le_succ _) hsz.out hg.out) c3.out⟩
    | ends y =>
      obtain ⟨y0', y1', y2'⟩ := y
      go_enter Tryz.func188, Tryz.ntmps188
      go_wp2_with fail
      refine HC.out.mono ?_
      rintro e w2 ⟨rfl, hg⟩
      replace hg := hide hg
      simp only [stV]
      have hX2 := hide (zero5 X1.out (blk_low hS.out hs.out (Nat.le_succ _)) hg.out)
      have z0 : w2.cell? ⟨w.heap.size + 1, 0, none⟩ = some (.bool false) := hX2.out.at' 0
      have z1 : w2.cell? ⟨w.heap.size + 1, 1, none⟩ = some (.bool false) := hX2.out.at' 1
      have z2 : w2.cell? ⟨w.heap.size + 1, 2, none⟩ = some (.int .i64 0) := hX2.out.at' 2
      have z3 : w2.cell? ⟨w.heap.size + 1, 3, none⟩ = some (.int .i64 0) := hX2.out.at' 3
      have z4 : w2.cell? ⟨w.heap.size + 1, 4, none⟩ = some (.string no) := hX2.out.at' 4
      have zf := hX2.out.fr
      have h3 := blk5 hX2.out (.bool false) (.bool true) (.int .i64 y0') (.int .i64 y1') (.string y2')
      have c3 := hide (chg5 w2 (w.heap.size + 1) (.bool false) (.bool true) (.int .i64 y0') (.int .i64 y1') (.string y2'))
      obtain ⟨w9, hw9⟩ : ∃ w9, put5 w2 (w.heap.size + 1) (.bool false) (.bool true) (.int .i64 y0') (.int .i64 y1') (.string y2') = w9 := ⟨_, rfl⟩
      rw [hw9] at h3 c3
      unfold put5 at hw9
      have y0 : w9.cell? ⟨w.heap.size + 1, 0, none⟩ = some (.bool false) := h3.at' 0
      have y1 : w9.cell? ⟨w.heap.size + 1, 1, none⟩ = some (.bool true) := h3.at' 1
      have y2 : w9.cell? ⟨w.heap.size + 1, 2, none⟩ = some (.int .i64 y0') := h3.at' 2
      have y3 : w9.cell? ⟨w.heap.size + 1, 3, none⟩ = some (.int .i64 y1') := h3.at' 3
      have y4 : w9.cell? ⟨w.heap.size + 1, 4, none⟩ = some (.string y2') := h3.at' 4
      replace h3 := hide h3
      go_wp2_with fail
      refine bodyPost_ret (by simp [results, Tryz.results188, go_sem, y0, y1, y2, y3, y4]; try rfl) rfl ?_
      exact ⟨rfl, end5 hS.out (Nat.le_succ _) (mid5 hS.out hs.out K1.out (Nat.le_succ _) hsz.out hg.out) c3.out⟩
  · have q1 : (k == 1) = false := by simp [k1]
    clear HC bk
    by_cases k4 : k = 4
    · subst k4
      have he : celN tk s ⟨4, i, t⟩ = (.ends ⟨4, i, t⟩, s) := by unfold celN; rw [if_neg (show ¬ (4 : Int) = 1 by decide), if_pos rfl]
      rw [he]
      clear k1
      have HE := endWith_is 4 i t
      go_enter Tryz.func188, Tryz.ntmps188
      go_wp2_with fail
      refine (HE.out _).mono ?_
      rintro e w2 ⟨rfl, hb2⟩
      have K2 := hide (next K1.out hb2)
      have hX2 := hide (X1.out.keep hb2)
      have z0 : w2.cell? ⟨w.heap.size + 1, 0, none⟩ = some (.bool false) := hX2.out.at' 0
      have z1 : w2.cell? ⟨w.heap.size + 1, 1, none⟩ = some (.bool false) := hX2.out.at' 1
      have z2 : w2.cell? ⟨w.heap.size + 1, 2, none⟩ = some (.int .i64 0) := hX2.out.at' 2
      have z3 : w2.cell? ⟨w.heap.size + 1, 3, none⟩ = some (.int .i64 0) := hX2.out.at' 3
      have z4 : w2.cell? ⟨w.heap.size + 1, 4, none⟩ = some (.string no) := hX2.out.at' 4
      have zf := hX2.out.fr
      have h3 := blk5 hX2.out (.bool false) (.bool true) (.int .i64 4) (.int .i64 i) (.string t)
      have c3 := hide (chg5 w2 (w.heap.size + 1) (.bool false) (.bool true) (.int .i64 4) (.int .i64 i) (.string t))
      obtain ⟨w9, hw9⟩ : ∃ w9, put5 w2 (w.heap.size + 1) (.bool false) (.bool true) (.int .i64 4) (.int .i64 i) (.string t) = w9 := ⟨_, rfl⟩
      rw [hw9] at h3 c3
      unfold put5 at hw9
      have y0 : w9.cell? ⟨w.heap.size + 1, 0, none⟩ = some (.bool false) := h3.at' 0
      have y1 : w9.cell? ⟨w.heap.size + 1, 1, none⟩ = some (.bool true) := h3.at' 1
      have y2 : w9.cell? ⟨w.heap.size + 1, 2, none⟩ = some (.int .i64 4) := h3.at' 2
      have y3 : w9.cell? ⟨w.heap.size + 1, 3, none⟩ = some (.int .i64 i) := h3.at' 3
      have y4 : w9.cell? ⟨w.heap.size + 1, 4, none⟩ = some (.string t) := h3.at' 4
      replace h3 := hide h3
      go_wp2_with fail
      refine bodyPost_ret (by simp [results, Tryz.results188, go_sem, y0, y1, y2, y3, y4]; try rfl) rfl ?_
      exact ⟨rfl, end5 hS.out (Nat.le_succ _) (bel5 hS.out hs.out K2.out (Nat.le_succ _)) c3.out⟩
    · have q4 : (k == 4) = false := by simp [k4]
      have he : celN tk s ⟨k, i, t⟩ = (.on, s) := by unfold celN; rw [if_neg k1, if_neg k4]
      rw [he]
      clear k1 k4
      go_enter Tryz.func188, Tryz.ntmps188
      go_wp2_with fail
      refine bodyPost_ret (by simp [results, Tryz.results188, go_sem]; try rfl) rfl ?_
      exact ⟨rfl, m, sm_of hS.out hs.out K1.out, Grw.refl _ _, Chg.of_below K1.out⟩
set_option maxHeartbeats 2000000 in
set_option maxRecDepth 100000 in
theorem gat_does {σ : Type} {S : σ → (Nat → Prop) → World → Prop} (hS : Stay S) (nm : Va → Int × Int) (hnm : NmbIs nm) (tk : σ → Int → Stp × σ) (nT : Nat) (capsT : Array Value) (HT : Tak S tk nT capsT) (Bk : Nat) (hbk : ∀ s m w, S s m w → Blk w Bk #[.func (.func nT) #[] capsT] 114) (hnb : ∀ s x, (tk s x).1 ≠ .bes) : Does S (givN nm tk) 158 #[.pointer (some ⟨Bk, 0, none⟩)] := by
  refine ⟨?_, ent_of Tryz.func158 (by kernel_rfl) (by kernel_rfl)⟩
  intro s m x w hs hx
  obtain ⟨k, i, t⟩ := x
  have hent := HT.ent
  have hk := hide (hbk s m w hs)
  have K1 := hide (step (step (Below.refl w.heap.size w) (vO k i t)) (stO false false 0 0 no))
  have X1 : Hid (Blk ((w.alloc (vO k i t)).alloc (stO false false 0 0 no)) (w.heap.size + 1) #[.bool false, .bool false, .int .i64 0, .int .i64 0, .string no] 82) := hide (T9.Blk.new1 w (vO k i t) _ _)
  have hsz : Hid (w.heap.size + 1 < ((w.alloc (vO k i t)).alloc (stO false false 0 0 no)).heap.size) := hide (by simp)
  obtain ⟨HN, hnb2, _⟩ := hnm ⟨k, i, t⟩ hx
  have hgv : Hid (givN nm tk s ⟨k, i, t⟩ = if (nm ⟨k, i, t⟩).2 = 0 then tk s (nm ⟨k, i, t⟩).1 else (.ends ⟨4, (nm ⟨k, i, t⟩).2, no⟩, s)) := hide rfl
  rw [hgv.out]
  generalize nm ⟨k, i, t⟩ = p at *
  obtain ⟨n, er⟩ := p
  simp only at HN hnb2 ⊢
  replace hS := hide hS
  replace hs := hide hs
  replace HT := hide HT
  clear hgv hnm hx
  by_cases h0 : er = 0
  · subst h0
    rw [if_pos rfl]
    have hb := hnb s n
    have HC := hide (fun w h => HT.out.call s m n w h (hnb2 rfl).1 (hnb2 rfl).2)
    clear hnb2
    generalize tk s n = p at *
    obtain ⟨p1, s2⟩ := p
    cases p1 with
    | bes => exact absurd rfl hb
    | on =>
      go_enter Tryz.func158, Tryz.ntmps158
      go_wp2_with fail
      refine (HN.out _).mono ?_
      rintro e w1 ⟨rfl, hb1⟩
      have K2 := hide (next K1.out hb1)
      have X2 := hide (X1.out.keep hb1)
      have bk : w1.cell? ⟨Bk, 0, none⟩ = some (.func (.func nT) #[] capsT) := (hk.out.keep K2.out).at' 0
      have HC1 := hide (HC.out w1 (sm_of hS.out hs.out K2.out))
      have hsz2 : Hid (w.heap.size + 1 < w1.heap.size) := hide (Nat.lt_of_lt_of_le hsz.out hb1.size)
      clear hb1
      go_wp2_with fail
      refine HC1.out.mono ?_
      rintro e w2 ⟨rfl, hg⟩
      replace hg := hide hg
      simp only [stV]
      clear bk
      have hX2 := hide (zero5 X2.out (blk_low hS.out hs.out (Nat.le_succ _)) hg.out)
      have z0 : w2.cell? ⟨w.heap.size + 1, 0, none⟩ = some (.bool false) := hX2.out.at' 0
      have z1 : w2.cell? ⟨w.heap.size + 1, 1, none⟩ = some (.bool false) := hX2.out.at' 1
      have z2 : w2.cell? ⟨w.heap.size + 1, 2, none⟩ = some (.int .i64 0) := hX2.out.at' 2
      have z3 : w2.cell? ⟨w.heap.size + 1, 3, none⟩ = some (.int .i64 0) := hX2.out.at' 3
      have z4 : w2.cell? ⟨w.heap.size + 1, 4, none⟩ = some (.string no) := hX2.out.at' 4
      have zf := hX2.out.fr
      have h3 := blk5 hX2.out (.bool false) (.bool false) (.int .i64 0) (.int .i64 0) (.string no)
      have c3 := hide (chg5 w2 (w.heap.size + 1) (.bool false) (.bool false) (.int .i64 0) (.int .i64 0) (.string no))
      obtain ⟨w9, hw9⟩ : ∃ w9, put5 w2 (w.heap.size + 1) (.bool false) (.bool false) (.int .i64 0) (.int .i64 0) (.string no) = w9 := ⟨_, rfl⟩
      rw [hw9] at h3 c3
      unfold put5 at hw9
      have y0 : w9.cell? ⟨w.heap.size + 1, 0, none⟩ = some (.bool false) := h3.at' 0
      have y1 : w9.cell? ⟨w.heap.size + 1, 1, none⟩ = some (.bool false) := h3.at' 1
      have y2 : w9.cell? ⟨w.heap.size + 1, 2, none⟩ = some (.int .i64 0) := h3.at' 2
      have y3 : w9.cell? ⟨w.heap.size + 1, 3, none⟩ = some (.int .i64 0) := h3.at' 3
      have y4 : w9.cell? ⟨w.heap.size + 1, 4, none⟩ = some (.string no) := h3.at' 4
      replace h3 := hide h3
      go_wp2_with fail
      refine bodyPost_ret (by simp [results, Tryz.results158, go_sem, y0, y1, y2, y3, y4]; try rfl) rfl ?_
      exact ⟨rfl, end5 hS.out (Nat.le_succ _) (mid5 hS.out hs.out K2.out (Nat.le_succ _) hsz2.out hg.out) c3.out⟩
    | ends y =>
      obtain ⟨y0', y1', y2'⟩ := y
      go_enter Tryz.func158, Tryz.ntmps158
      go_wp2_with fail
      refine (HN.out _).mono ?_
      rintro e w1 ⟨rfl, hb1⟩
      have K2 := hide (next K1.out hb1)
      have X2 := hide (X1.out.keep hb1)
      have bk : w1.cell? ⟨Bk, 0, none⟩ = some (.func (.func nT) #[] capsT) := (hk.out.keep K2.out).at' 0
      have HC1 := hide (HC.out w1 (sm_of hS.out hs.out K2.out))
      have hsz2 : Hid (w.heap.size + 1 < w1.heap.size) := hide (Nat.lt_of_lt_of_le hsz.out hb1.size)
      clear hb1
      go_wp2_with fail
      refine HC1.out.mono ?_
      rintro e w2 ⟨rfl, hg⟩
      replace hg := hide hg
      simp only [stV]
      clear bk
      have hX2 := hide (zero5 X2.out (blk_low hS.out hs.out (Nat.le_succ _)) hg.out)
      have z0 : w2.cell? ⟨w.heap.size + 1, 0, none⟩ = some (.bool false) := hX2.out.at' 0
      have z1 : w2.cell? ⟨w.heap.size + 1, 1, none⟩ = some (.bool false) := hX2.out.at' 1
      have z2 : w2.cell? ⟨w.heap.size + 1, 2, none⟩ = some (.int .i64 0) := hX2.out.at' 2
      have z3 : w2.cell? ⟨w.heap.size + 1, 3, none⟩ = some (.int .i64 0) := hX2.out.at' 3
      have z4 : w2.cell? ⟨w.heap.size + 1, 4, none⟩ = some (.string no) := hX2.out.at' 4
      have zf := hX2.out.fr
      have h3 := blk5 hX2.out (.bool false) (.bool true) (.int .i64 y0') (.int .i64 y1') (.string y2')
      have c3 := hide (chg5 w2 (w.heap.size + 1) (.bool false) (.bool true) (.int .i64 y0') (.int .i64 y1') (.string y2'))
      obtain ⟨w9, hw9⟩ : ∃ w9, put5 w2 (w.heap.size + 1) (.bool false) (.bool true) (.int .i64 y0') (.int .i64 y1') (.string y2') = w9 := ⟨_, rfl⟩
      rw [hw9] at h3 c3
      unfold put5 at hw9
      have y0 : w9.cell? ⟨w.heap.size + 1, 0, none⟩ = some (.bool false) := h3.at' 0
      have y1 : w9.cell? ⟨w.heap.size + 1, 1, none⟩ = some (.bool true) := h3.at' 1
      have y2 : w9.cell? ⟨w.heap.size + 1, 2, none⟩ = some (.int .i64 y0') := h3.at' 2
      have y3 : w9.cell? ⟨w.heap.size + 1, 3, none⟩ = some (.int .i64 y1') := h3.at' 3
      have y4 : w9.cell? ⟨w.heap.size + 1, 4, none⟩ = some (.string y2') := h3.at' 4
      replace h3 := hide h3
      go_wp2_with fail
      refine bodyPost_ret (by simp [results, Tryz.results158, go_sem, y0, y1, y2, y3, y4]; try rfl) rfl ?_
      exact ⟨rfl, end5 hS.out (Nat.le_succ _) (mid5 hS.out hs.out K2.out (Nat.le_succ _) hsz2.out hg.out) c3.out⟩
  · rw [if_neg h0]
    have q0 : (er != 0) = true := by simp [h0]
    have HF := ffault_is er
    have HE := endWith_is 4 er no
    clear hnb2 h0
    go_enter Tryz.func158, Tryz.ntmps158
    go_wp2_with fail
    refine (HN.out _).mono ?_
    rintro e w1 ⟨rfl, hb1⟩
    have K2 := hide (next K1.out hb1)
    have X2 := hide (X1.out.keep hb1)
    clear hb1
    go_wp2_with fail
    refine (HF.out _).mono ?_
    rintro e w2 ⟨rfl, hb2⟩
    have K3 := hide (next K2.out hb2)
    have X3 := hide (X2.out.keep hb2)
    clear hb2
    go_wp2_with fail
    refine (HE.out _).mono ?_
    rintro e w3 ⟨rfl, hb3⟩
    have K4 := hide (next K3.out hb3)
    have hX2 := hide (X3.out.keep hb3)
    have z0 : w3.cell? ⟨w.heap.size + 1, 0, none⟩ = some (.bool false) := hX2.out.at' 0
    have z1 : w3.cell? ⟨w.heap.size + 1, 1, none⟩ = some (.bool false) := hX2.out.at' 1
    have z2 : w3.cell? ⟨w.heap.size + 1, 2, none⟩ = some (.int .i64 0) := hX2.out.at' 2
    have z3 : w3.cell? ⟨w.heap.size + 1, 3, none⟩ = some (.int .i64 0) := hX2.out.at' 3
    have z4 : w3.cell? ⟨w.heap.size + 1, 4, none⟩ = some (.string no) := hX2.out.at' 4
    have zf := hX2.out.fr
    have h3 := blk5 hX2.out (.bool false) (.bool true) (.int .i64 4) (.int .i64 er) (.string no)
    have c3 := hide (chg5 w3 (w.heap.size + 1) (.bool false) (.bool true) (.int .i64 4) (.int .i64 er) (.string no))
    obtain ⟨w9, hw9⟩ : ∃ w9, put5 w3 (w.heap.size + 1) (.bool false) (.bool true) (.int .i64 4) (.int .i64 er) (.string no) = w9 := ⟨_, rfl⟩
    rw [hw9] at h3 c3
    unfold put5 at hw9
    have y0 : w9.cell? ⟨w.heap.size + 1, 0, none⟩ = some (.bool false) := h3.at' 0
    have y1 : w9.cell? ⟨w.heap.size + 1, 1, none⟩ = some (.bool true) := h3.at' 1
    have y2 : w9.cell? ⟨w.heap.size + 1, 2, none⟩ = some (.int .i64 4) := h3.at' 2
    have y3 : w9.cell? ⟨w.heap.size + 1, 3, none⟩ = some (.int .i64 er) := h3.at' 3
    have y4 : w9.cell? ⟨w.heap.size + 1, 4, none⟩ = some (.string no) := h3.at' 4
    replace h3 := hide h3
    go_wp2_with fail
    refine bodyPost_ret (by simp [results, Tryz.results158, go_sem, y0, y1, y2, y3, y4]; try rfl) rfl ?_
    exact ⟨rfl, end5 hS.out (Nat.le_succ _) (bel5 hS.out hs.out K4.out (Nat.le_succ _)) c3.out⟩
end Go.Proofs.YtnpdkojhlgchlaaGreatDoor
