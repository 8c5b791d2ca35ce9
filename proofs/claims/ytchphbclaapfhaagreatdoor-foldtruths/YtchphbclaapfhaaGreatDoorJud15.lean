/- Package fold's rule of functions of truths: judging, and, or, xor. Proved of the Go text. -/
import Derived.Test.YtchphbclaapfhaaGreatDoorTru15
import Derived.Test.YtchphbclaapfhaaGreatDoorBeg15
namespace Go.Proofs.YtchphbclaapfhaaGreatDoor
open Go.RowKit Go.Sort
open T9 (Blk Chg)
set_option linter.unusedVariables false

/-- A truth as a value. -/
def b2i (b : Bool) : Int := if b then 1 else 0
abbrev bV (b : Bool) : Va := ⟨2, b2i b, no⟩
/-- What judging does with a given value, and with a cell's; what it ends with. -/
def givB (tr : Va → Bool × Int) (tk : Bool → Bool → Stp × Bool) (s : Bool × Bool) (x : Va) : Stp × (Bool × Bool) := if (tr x).2 = 0 then ((tk s.2 (tr x).1).1, (true, (tk s.2 (tr x).1).2)) else (.ends ⟨4, (tr x).2, no⟩, s)
def celB (tr : Va → Bool × Int) (tk : Bool → Bool → Stp × Bool) (s : Bool × Bool) (x : Va) : Stp × (Bool × Bool) := if x.k = 0 ∨ x.k = 3 then (.on, s) else givB tr tk s x
def lastB (la : Bool → Bool) (s : Bool × Bool) : Va := if s.1 then bV (la s.2) else ⟨4, 4, no⟩
/-- AND and OR end with the truth that decides; XOR turns. -/
def untT (o b : Bool) : Stp × Bool := if b = o then (.ends (bV b), o) else (.on, o)
def xorT (o b : Bool) : Stp × Bool := (.on, o != b)
/-- What is done with a truth, and what is told at the end, over one box. -/
structure TkB (tk : Bool → Bool → Stp × Bool) (n : Nat) : Prop where
  call : ∀ (o b : Bool) (Bo : Nat) (w : World), Blk w Bo #[.bool o] 4 → Calls Tryz.prog n #[.bool b, .pointer (some ⟨Bo, 0, none⟩)] w fun e w' => e = .returned (stV (tk o b).1) ∧ Blk w' Bo #[.bool (tk o b).2] 4 ∧ Chg (· = Bo) w w'
  ent : ∀ args w, (callFunc n args).run Tryz.prog w = .ok (.enter n args) w
  nb : ∀ o b, (tk o b).1 ≠ .bes
structure LaB (la : Bool → Bool) (n : Nat) : Prop where
  call : ∀ (o : Bool) (Bo : Nat) (w : World), Blk w Bo #[.bool o] 4 → Calls Tryz.prog n #[.pointer (some ⟨Bo, 0, none⟩)] w fun e w' => e = .returned (.bool (la o)) ∧ Below w.heap.size w w'
  ent : ∀ args w, (callFunc n args).run Tryz.prog w = .ok (.enter n args) w
theorem bel_new {w w2 w3 : World} {X : Nat} (hb : Below w.heap.size w w2) (hX : w.heap.size ≤ X) (hc : Chg (· = X) w2 w3) : Below w.heap.size w w3 := ⟨hc.os.trans hb.os, hc.tape.trans hb.tape, hc.output.trans hb.output, Nat.le_trans hb.size hc.size, fun k hk => (hc.block k (Nat.lt_of_lt_of_le hk hb.size) (by omega)).trans (hb.block k hk)⟩
theorem chg_new {m : Nat → Prop} {w w1 w2 w3 : World} {X : Nat} (hb : Below w.heap.size w w1) (h2 : Chg m w1 w2) (h3 : Chg (· = X) w2 w3) (hX : w.heap.size ≤ X) : Chg m w w3 := ⟨h3.os.trans (h2.os.trans hb.os), h3.tape.trans (h2.tape.trans hb.tape), h3.output.trans (h2.output.trans hb.output), Nat.le_trans hb.size (Nat.le_trans h2.size h3.size), fun k hk hn => (h3.block k (Nat.lt_of_lt_of_le hk (Nat.le_trans hb.size h2.size)) (by omega)).trans ((h2.block k (Nat.lt_of_lt_of_le hk hb.size) hn).trans (hb.block k hk))⟩
theorem untT_nb (o b : Bool) : (untT o b).1 ≠ .bes := by unfold untT; split <;> simp
set_option maxHeartbeats 2000000 in
set_option maxRecDepth 100000 in
theorem unt_tk : TkB untT 131 := by
  refine ⟨?_, ent_of Tryz.func131 (by kernel_rfl) (by kernel_rfl), untT_nb⟩
  intro o b Bo w h
  have K1 := hide (step (Below.refl w.heap.size w) (stO false false 0 0 no))
  have X1 : Hid (Blk (w.alloc (stO false false 0 0 no)) w.heap.size #[.bool false, .bool false, .int .i64 0, .int .i64 0, .string no] 79) := hide (Blk.new w _ _)
  have a1 : (w.alloc (stO false false 0 0 no)).cell? ⟨Bo, 0, none⟩ = some (.bool o) := (h.alloc _).at' 0
  replace h := hide h
  cases o <;> cases b
  · have HT : CallIs 132 #[.bool false] (vV 2 0 no) := ftruth_is false
    have HE := endWith_is 2 0 no
    go_enter Tryz.func131, Tryz.ntmps131
    go_wp2_with fail
    refine (HT.out _).mono ?_
    rintro e w2 ⟨rfl, hb2⟩
    have K2 := hide (next K1.out hb2)
    have X2 := hide (X1.out.keep hb2)
    clear hb2 a1
    go_wp2_with fail
    refine (HE.out _).mono ?_
    rintro e w3 ⟨rfl, hb3⟩
    have K3 := hide (next K2.out hb3)
    have hX2 := hide (X2.out.keep hb3)
    have z0 : w3.cell? ⟨w.heap.size, 0, none⟩ = some (.bool false) := hX2.out.at' 0
    have z1 : w3.cell? ⟨w.heap.size, 1, none⟩ = some (.bool false) := hX2.out.at' 1
    have z2 : w3.cell? ⟨w.heap.size, 2, none⟩ = some (.int .i64 0) := hX2.out.at' 2
    have z3 : w3.cell? ⟨w.heap.size, 3, none⟩ = some (.int .i64 0) := hX2.out.at' 3
    have z4 : w3.cell? ⟨w.heap.size, 4, none⟩ = some (.string no) := hX2.out.at' 4
    have zf := hX2.out.fr
    have h3 := blk5 hX2.out (.bool false) (.bool true) (.int .i64 2) (.int .i64 0) (.string no)
    have c3 := hide (chg5 w3 (w.heap.size) (.bool false) (.bool true) (.int .i64 2) (.int .i64 0) (.string no))
    obtain ⟨w9, hw9⟩ : ∃ w9, put5 w3 (w.heap.size) (.bool false) (.bool true) (.int .i64 2) (.int .i64 0) (.string no) = w9 := ⟨_, rfl⟩
    rw [hw9] at h3 c3
    unfold put5 at hw9
    have y0 : w9.cell? ⟨w.heap.size, 0, none⟩ = some (.bool false) := h3.at' 0
    have y1 : w9.cell? ⟨w.heap.size, 1, none⟩ = some (.bool true) := h3.at' 1
    have y2 : w9.cell? ⟨w.heap.size, 2, none⟩ = some (.int .i64 2) := h3.at' 2
    have y3 : w9.cell? ⟨w.heap.size, 3, none⟩ = some (.int .i64 0) := h3.at' 3
    have y4 : w9.cell? ⟨w.heap.size, 4, none⟩ = some (.string no) := h3.at' 4
    replace h3 := hide h3
    go_wp2_with fail
    refine bodyPost_ret (by simp [results, Tryz.results131, go_sem, y0, y1, y2, y3, y4]; try rfl) rfl ?_
    have b9 := bel_new K3.out (Nat.le_refl _) c3.out
    exact ⟨rfl, h.out.keep b9, Chg.of_below b9⟩
  · go_enter Tryz.func131, Tryz.ntmps131
    go_wp2_with fail
    refine bodyPost_ret (by simp [results, Tryz.results131, go_sem]; try rfl) rfl ?_
    exact ⟨rfl, h.out.keep K1.out, Chg.of_below K1.out⟩
  · go_enter Tryz.func131, Tryz.ntmps131
    go_wp2_with fail
    refine bodyPost_ret (by simp [results, Tryz.results131, go_sem]; try rfl) rfl ?_
    exact ⟨rfl, h.out.keep K1.out, Chg.of_below K1.out⟩
  · have HT : CallIs 132 #[.bool true] (vV 2 1 no) := ftruth_is true
    have HE := endWith_is 2 1 no
    go_enter Tryz.func131, Tryz.ntmps131
    go_wp2_with fail
    refine (HT.out _).mono ?_
    rintro e w2 ⟨rfl, hb2⟩
    have K2 := hide (next K1.out hb2)
    have X2 := hide (X1.out.keep hb2)
    clear hb2 a1
    go_wp2_with fail
    refine (HE.out _).mono ?_
    rintro e w3 ⟨rfl, hb3⟩
    have K3 := hide (next K2.out hb3)
    have hX2 := hide (X2.out.keep hb3)
    have z0 : w3.cell? ⟨w.heap.size, 0, none⟩ = some (.bool false) := hX2.out.at' 0
    have z1 : w3.cell? ⟨w.heap.size, 1, none⟩ = some (.bool false) := hX2.out.at' 1
    have z2 : w3.cell? ⟨w.heap.size, 2, none⟩ = some (.int .i64 0) := hX2.out.at' 2
    have z3 : w3.cell? ⟨w.heap.size, 3, none⟩ = some (.int .i64 0) := hX2.out.at' 3
    have z4 : w3.cell? ⟨w.heap.size, 4, none⟩ = some (.string no) := hX2.out.at' 4
    have zf := hX2.out.fr
    have h3 := blk5 hX2.out (.bool false) (.bool true) (.int .i64 2) (.int .i64 1) (.string no)
    have c3 := hide (chg5 w3 (w.heap.size) (.bool false) (.bool true) (.int .i64 2) (.int .i64 1) (.string no))
    obtain ⟨w9, hw9⟩ : ∃ w9, put5 w3 (w.heap.size) (.bool false) (.bool true) (.int .i64 2) (.int .i64 1) (.string no) = w9 := ⟨_, rfl⟩
    rw [hw9] at h3 c3
    unfold put5 at hw9
    have y0 : w9.cell? ⟨w.heap.size, 0, none⟩ = some (.bool false) := h3.at' 0
    have y1 : w9.cell? ⟨w.heap.size, 1, none⟩ = some (.bool true) := h3.at' 1
    have y2 : w9.cell? ⟨w.heap.size, 2, none⟩ = some (.int .i64 2) := h3.at' 2
    have y3 : w9.cell? ⟨w.heap.size, 3, none⟩ = some (.int .i64 1) := h3.at' 3
    have y4 : w9.cell? ⟨w.heap.size, 4, none⟩ = some (.string no) := h3.at' 4
    replace h3 := hide h3
    go_wp2_with fail
    refine bodyPost_ret (by simp [results, Tryz.results131, go_sem, y0, y1, y2, y3, y4]; try rfl) rfl ?_
    have b9 := bel_new K3.out (Nat.le_refl _) c3.out
    exact ⟨rfl, h.out.keep b9, Chg.of_below b9⟩
set_option maxHeartbeats 1000000 in
theorem unt_la : LaB (! ·) 133 := by
  refine ⟨?_, ent_of Tryz.func133 (by kernel_rfl) (by kernel_rfl)⟩
  intro o Bo w h
  have a1 : w.cell? ⟨Bo, 0, none⟩ = some (.bool o) := h.at' 0
  go_enter Tryz.func133, Tryz.ntmps133
  go_wp2_with fail
  go_ret
  exact ⟨rfl, by go_grown⟩
set_option maxHeartbeats 1000000 in
theorem xor_la : LaB id 85 := by
  refine ⟨?_, ent_of Tryz.func85 (by kernel_rfl) (by kernel_rfl)⟩
  intro o Bo w h
  have a1 : w.cell? ⟨Bo, 0, none⟩ = some (.bool o) := h.at' 0
  go_enter Tryz.func85, Tryz.ntmps85
  go_wp2_with fail
  go_ret
  exact ⟨rfl, by go_grown⟩
set_option maxHeartbeats 2000000 in
set_option maxRecDepth 100000 in
theorem xor_tk : TkB xorT 83 := by
  refine ⟨?_, ent_of Tryz.func83 (by kernel_rfl) (by kernel_rfl), fun o b h => by cases h⟩
  intro o b Bo w h
  have K1 := hide (step (Below.refl w.heap.size w) (stO false false 0 0 no))
  have X1 : Hid (Blk (w.alloc (stO false false 0 0 no)) w.heap.size #[.bool false, .bool false, .int .i64 0, .int .i64 0, .string no] 79) := hide (Blk.new w _ _)
  have hne : w.heap.size ≠ Bo := Nat.ne_of_gt h.lt
  have h1 := h.alloc (stO false false 0 0 no)
  have a1 : (w.alloc (stO false false 0 0 no)).cell? ⟨Bo, 0, none⟩ = some (.bool o) := h1.at' 0
  have ft := h1.fr 0
  replace h := hide h
  replace h1 := hide h1
  cases o <;> cases b
  · have T4 := hide (h1.out.set 0 (.bool false))
    have C4 := hide ((Chg.refl (· = Bo) (w.alloc (stO false false 0 0 no))).set Bo 0 (.bool false) rfl)
    have X4 := C4.out.blk X1.out hne
    obtain ⟨w4, hw4⟩ : ∃ w4, (w.alloc (stO false false 0 0 no)).setCell ⟨Bo, 0, none⟩ (.bool false) = w4 := ⟨_, rfl⟩
    rw [hw4] at T4 C4 X4
    replace X4 := hide X4
    simp only [stO] at hw4
    go_enter Tryz.func83, Tryz.ntmps83
    have hX2 := hide (X4.out)
    have z0 : w4.cell? ⟨w.heap.size, 0, none⟩ = some (.bool false) := hX2.out.at' 0
    have z1 : w4.cell? ⟨w.heap.size, 1, none⟩ = some (.bool false) := hX2.out.at' 1
    have z2 : w4.cell? ⟨w.heap.size, 2, none⟩ = some (.int .i64 0) := hX2.out.at' 2
    have z3 : w4.cell? ⟨w.heap.size, 3, none⟩ = some (.int .i64 0) := hX2.out.at' 3
    have z4 : w4.cell? ⟨w.heap.size, 4, none⟩ = some (.string no) := hX2.out.at' 4
    have zf := hX2.out.fr
    have h3 := blk5 hX2.out (.bool false) (.bool false) (.int .i64 0) (.int .i64 0) (.string no)
    have c3 := hide (chg5 w4 (w.heap.size) (.bool false) (.bool false) (.int .i64 0) (.int .i64 0) (.string no))
    obtain ⟨w9, hw9⟩ : ∃ w9, put5 w4 (w.heap.size) (.bool false) (.bool false) (.int .i64 0) (.int .i64 0) (.string no) = w9 := ⟨_, rfl⟩
    rw [hw9] at h3 c3
    unfold put5 at hw9
    have y0 : w9.cell? ⟨w.heap.size, 0, none⟩ = some (.bool false) := h3.at' 0
    have y1 : w9.cell? ⟨w.heap.size, 1, none⟩ = some (.bool false) := h3.at' 1
    have y2 : w9.cell? ⟨w.heap.size, 2, none⟩ = some (.int .i64 0) := h3.at' 2
    have y3 : w9.cell? ⟨w.heap.size, 3, none⟩ = some (.int .i64 0) := h3.at' 3
    have y4 : w9.cell? ⟨w.heap.size, 4, none⟩ = some (.string no) := h3.at' 4
    replace h3 := hide h3
    go_wp2_with fail
    refine bodyPost_ret (by simp [results, Tryz.results83, go_sem, y0, y1, y2, y3, y4]; try rfl) rfl ?_
    exact ⟨rfl, c3.out.blk T4.out (Ne.symm hne), chg_new K1.out C4.out c3.out (Nat.le_refl _)⟩
  · have T4 := hide (h1.out.set 0 (.bool true))
    have C4 := hide ((Chg.refl (· = Bo) (w.alloc (stO false false 0 0 no))).set Bo 0 (.bool true) rfl)
    have X4 := C4.out.blk X1.out hne
    obtain ⟨w4, hw4⟩ : ∃ w4, (w.alloc (stO false false 0 0 no)).setCell ⟨Bo, 0, none⟩ (.bool true) = w4 := ⟨_, rfl⟩
    rw [hw4] at T4 C4 X4
    replace X4 := hide X4
    simp only [stO] at hw4
    go_enter Tryz.func83, Tryz.ntmps83
    have hX2 := hide (X4.out)
    have z0 : w4.cell? ⟨w.heap.size, 0, none⟩ = some (.bool false) := hX2.out.at' 0
    have z1 : w4.cell? ⟨w.heap.size, 1, none⟩ = some (.bool false) := hX2.out.at' 1
    have z2 : w4.cell? ⟨w.heap.size, 2, none⟩ = some (.int .i64 0) := hX2.out.at' 2
    have z3 : w4.cell? ⟨w.heap.size, 3, none⟩ = some (.int .i64 0) := hX2.out.at' 3
    have z4 : w4.cell? ⟨w.heap.size, 4, none⟩ = some (.string no) := hX2.out.at' 4
    have zf := hX2.out.fr
    have h3 := blk5 hX2.out (.bool false) (.bool false) (.int .i64 0) (.int .i64 0) (.string no)
    have c3 := hide (chg5 w4 (w.heap.size) (.bool false) (.bool false) (.int .i64 0) (.int .i64 0) (.string no))
    obtain ⟨w9, hw9⟩ : ∃ w9, put5 w4 (w.heap.size) (.bool false) (.bool false) (.int .i64 0) (.int .i64 0) (.string no) = w9 := ⟨_, rfl⟩
    rw [hw9] at h3 c3
    unfold put5 at hw9
    have y0 : w9.cell? ⟨w.heap.size, 0, none⟩ = some (.bool false) := h3.at' 0
    have y1 : w9.cell? ⟨w.heap.size, 1, none⟩ = some (.bool false) := h3.at' 1
    have y2 : w9.cell? ⟨w.heap.size, 2, none⟩ = some (.int .i64 0) := h3.at' 2
    have y3 : w9.cell? ⟨w.heap.size, 3, none⟩ = some (.int .i64 0) := h3.at' 3
    have y4 : w9.cell? ⟨w.heap.size, 4, none⟩ = some (.string no) := h3.at' 4
    replace h3 := hide h3
    go_wp2_with fail
    refine bodyPost_ret (by simp [results, Tryz.results83, go_sem, y0, y1, y2, y3, y4]; try rfl) rfl ?_
    exact ⟨rfl, c3.out.blk T4.out (Ne.symm hne), chg_new K1.out C4.out c3.out (Nat.le_refl _)⟩
  · have T4 := hide (h1.out.set 0 (.bool true))
    have C4 := hide ((Chg.refl (· = Bo) (w.alloc (stO false false 0 0 no))).set Bo 0 (.bool true) rfl)
    have X4 := C4.out.blk X1.out hne
    obtain ⟨w4, hw4⟩ : ∃ w4, (w.alloc (stO false false 0 0 no)).setCell ⟨Bo, 0, none⟩ (.bool true) = w4 := ⟨_, rfl⟩
    rw [hw4] at T4 C4 X4
    replace X4 := hide X4
    simp only [stO] at hw4
    go_enter Tryz.func83, Tryz.ntmps83
    have hX2 := hide (X4.out)
    have z0 : w4.cell? ⟨w.heap.size, 0, none⟩ = some (.bool false) := hX2.out.at' 0
    have z1 : w4.cell? ⟨w.heap.size, 1, none⟩ = some (.bool false) := hX2.out.at' 1
    have z2 : w4.cell? ⟨w.heap.size, 2, none⟩ = some (.int .i64 0) := hX2.out.at' 2
    have z3 : w4.cell? ⟨w.heap.size, 3, none⟩ = some (.int .i64 0) := hX2.out.at' 3
    have z4 : w4.cell? ⟨w.heap.size, 4, none⟩ = some (.string no) := hX2.out.at' 4
    have zf := hX2.out.fr
    have h3 := blk5 hX2.out (.bool false) (.bool false) (.int .i64 0) (.int .i64 0) (.string no)
    have c3 := hide (chg5 w4 (w.heap.size) (.bool false) (.bool false) (.int .i64 0) (.int .i64 0) (.string no))
    obtain ⟨w9, hw9⟩ : ∃ w9, put5 w4 (w.heap.size) (.bool false) (.bool false) (.int .i64 0) (.int .i64 0) (.string no) = w9 := ⟨_, rfl⟩
    rw [hw9] at h3 c3
    unfold put5 at hw9
    have y0 : w9.cell? ⟨w.heap.size, 0, none⟩ = some (.bool false) := h3.at' 0
    have y1 : w9.cell? ⟨w.heap.size, 1, none⟩ = some (.bool false) := h3.at' 1
    have y2 : w9.cell? ⟨w.heap.size, 2, none⟩ = some (.int .i64 0) := h3.at' 2
    have y3 : w9.cell? ⟨w.heap.size, 3, none⟩ = some (.int .i64 0) := h3.at' 3
    have y4 : w9.cell? ⟨w.heap.size, 4, none⟩ = some (.string no) := h3.at' 4
    replace h3 := hide h3
    go_wp2_with fail
    refine bodyPost_ret (by simp [results, Tryz.results83, go_sem, y0, y1, y2, y3, y4]; try rfl) rfl ?_
    exact ⟨rfl, c3.out.blk T4.out (Ne.symm hne), chg_new K1.out C4.out c3.out (Nat.le_refl _)⟩
  · have T4 := hide (h1.out.set 0 (.bool false))
    have C4 := hide ((Chg.refl (· = Bo) (w.alloc (stO false false 0 0 no))).set Bo 0 (.bool false) rfl)
    have X4 := C4.out.blk X1.out hne
    obtain ⟨w4, hw4⟩ : ∃ w4, (w.alloc (stO false false 0 0 no)).setCell ⟨Bo, 0, none⟩ (.bool false) = w4 := ⟨_, rfl⟩
    rw [hw4] at T4 C4 X4
    replace X4 := hide X4
    simp only [stO] at hw4
    go_enter Tryz.func83, Tryz.ntmps83
    have hX2 := hide (X4.out)
    have z0 : w4.cell? ⟨w.heap.size, 0, none⟩ = some (.bool false) := hX2.out.at' 0
    have z1 : w4.cell? ⟨w.heap.size, 1, none⟩ = some (.bool false) := hX2.out.at' 1
    have z2 : w4.cell? ⟨w.heap.size, 2, none⟩ = some (.int .i64 0) := hX2.out.at' 2
    have z3 : w4.cell? ⟨w.heap.size, 3, none⟩ = some (.int .i64 0) := hX2.out.at' 3
    have z4 : w4.cell? ⟨w.heap.size, 4, none⟩ = some (.string no) := hX2.out.at' 4
    have zf := hX2.out.fr
    have h3 := blk5 hX2.out (.bool false) (.bool false) (.int .i64 0) (.int .i64 0) (.string no)
    have c3 := hide (chg5 w4 (w.heap.size) (.bool false) (.bool false) (.int .i64 0) (.int .i64 0) (.string no))
    obtain ⟨w9, hw9⟩ : ∃ w9, put5 w4 (w.heap.size) (.bool false) (.bool false) (.int .i64 0) (.int .i64 0) (.string no) = w9 := ⟨_, rfl⟩
    rw [hw9] at h3 c3
    unfold put5 at hw9
    have y0 : w9.cell? ⟨w.heap.size, 0, none⟩ = some (.bool false) := h3.at' 0
    have y1 : w9.cell? ⟨w.heap.size, 1, none⟩ = some (.bool false) := h3.at' 1
    have y2 : w9.cell? ⟨w.heap.size, 2, none⟩ = some (.int .i64 0) := h3.at' 2
    have y3 : w9.cell? ⟨w.heap.size, 3, none⟩ = some (.int .i64 0) := h3.at' 3
    have y4 : w9.cell? ⟨w.heap.size, 4, none⟩ = some (.string no) := h3.at' 4
    replace h3 := hide h3
    go_wp2_with fail
    refine bodyPost_ret (by simp [results, Tryz.results83, go_sem, y0, y1, y2, y3, y4]; try rfl) rfl ?_
    exact ⟨rfl, c3.out.blk T4.out (Ne.symm hne), chg_new K1.out C4.out c3.out (Nat.le_refl _)⟩
/-- Where judging's variables lie. -/
def JudS (nT nL Bs Bt Bg Bl Bo : Nat) (s : Bool × Bool) (m : Nat → Prop) (w : World) : Prop :=
  Blk w Bs #[.bool s.1] 4 ∧ Blk w Bt #[.func (.func nT) #[] #[.pointer (some ⟨Bo, 0, none⟩)]] 105 ∧ Blk w Bg #[.func (.func 134) #[] #[.pointer (some ⟨Bs, 0, none⟩), .pointer (some ⟨Bt, 0, none⟩)]] 66 ∧ Blk w Bl #[.func (.func nL) #[] #[.pointer (some ⟨Bo, 0, none⟩)]] 23 ∧ Blk w Bo #[.bool s.2] 4 ∧ m = (fun k => k = Bs ∨ k = Bt ∨ k = Bg ∨ k = Bl ∨ k = Bo) ∧ (Bs ≠ Bt ∧ Bs ≠ Bg ∧ Bs ≠ Bl ∧ Bs ≠ Bo) ∧ (Bo ≠ Bt ∧ Bo ≠ Bg ∧ Bo ≠ Bl)
theorem jud_stay (nT nL Bs Bt Bg Bl Bo : Nat) : Stay (JudS nT nL Bs Bt Bg Bl Bo) := by
  constructor
  · intro s m w ⟨h1, h2, h3, h4, h5, h6, _⟩ k hk
    rw [h6] at hk
    rcases hk with rfl | rfl | rfl | rfl | rfl
    · exact h1.lt
    · exact h2.lt
    · exact h3.lt
    · exact h4.lt
    · exact h5.lt
  · intro s m w w' ⟨h1, h2, h3, h4, h5, h6, h7⟩ hb
    subst h6
    exact ⟨(hb _ (.inl rfl)).trans h1, (hb _ (.inr (.inl rfl))).trans h2, (hb _ (.inr (.inr (.inl rfl)))).trans h3, (hb _ (.inr (.inr (.inr (.inl rfl))))).trans h4, (hb _ (.inr (.inr (.inr (.inr rfl))))).trans h5, rfl, h7⟩
/-- What is left behind a truth that is taken. -/
theorem jud_mid {nT nL Bs Bt Bg Bl Bo : Nat} {so o o2 : Bool} {m : Nat → Prop} {w w1 w2 w3 : World} {X : Nat} (hs : JudS nT nL Bs Bt Bg Bl Bo (so, o) m w) (hb : Below w.heap.size w w1) (hX : w.heap.size ≤ X) (h2 : Blk w2 Bs #[.bool true] 4) (c2 : Chg (· = Bs) w1 w2) (h3 : Blk w3 Bo #[.bool o2] 4) (c3 : Chg (· = Bo) w2 w3) : ∃ m', JudS nT nL Bs Bt Bg Bl Bo (true, o2) m' w3 ∧ Grw m m' w ∧ Chg m w w3 ∧ ¬ m' X := by
  have hl := blk_low (jud_stay nT nL Bs Bt Bg Bl Bo) hs hX
  obtain ⟨g1, g2, g3, g4, g5, g6, g7, g8⟩ := hs
  refine ⟨m, ⟨c3.blk h2 g7.2.2.2, c3.blk (c2.blk (g2.keep hb) (Ne.symm g7.1)) (Ne.symm g8.1), c3.blk (c2.blk (g3.keep hb) (Ne.symm g7.2.1)) (Ne.symm g8.2.1), c3.blk (c2.blk (g4.keep hb) (Ne.symm g7.2.2.1)) (Ne.symm g8.2.2), h3, g6, g7, g8⟩, Grw.refl _ _, ((Chg.of_below hb : Chg m w w1).trans (chg_of c2 (fun k e => ?_))).trans (chg_of c3 (fun k e => ?_)), hl⟩
  · rw [g6]; exact .inl e
  · rw [g6]; exact .inr (.inr (.inr (.inr e)))
set_option maxHeartbeats 2000000 in
set_option maxRecDepth 100000 in
theorem jud1_does (tr : Va → Bool × Int) (htr : TruIs tr) (tk : Bool → Bool → Stp × Bool) (nT nL Bs Bt Bg Bl Bo : Nat) (HT : TkB tk nT) : Does (JudS nT nL Bs Bt Bg Bl Bo) (givB tr tk) 134 #[.pointer (some ⟨Bs, 0, none⟩), .pointer (some ⟨Bt, 0, none⟩)] := by
  refine ⟨?_, ent_of Tryz.func134 (by kernel_rfl) (by kernel_rfl)⟩
  intro s m x w hs hx
  obtain ⟨so, o⟩ := s
  obtain ⟨k, i, t⟩ := x
  have hent := HT.ent
  obtain ⟨h1, h2, h3, h4, h5, h6, h7, h8⟩ := id hs
  have hS := hide (jud_stay nT nL Bs Bt Bg Bl Bo)
  have K1 := hide (step (step (Below.refl w.heap.size w) (vO k i t)) (stO false false 0 0 no))
  have X1 : Hid (Blk ((w.alloc (vO k i t)).alloc (stO false false 0 0 no)) (w.heap.size + 1) #[.bool false, .bool false, .int .i64 0, .int .i64 0, .string no] 79) := hide (T9.Blk.new1 w (vO k i t) _ _)
  obtain ⟨HN, _⟩ := htr ⟨k, i, t⟩ hx
  have hgv : Hid (givB tr tk (so, o) ⟨k, i, t⟩ = if (tr ⟨k, i, t⟩).2 = 0 then ((tk o (tr ⟨k, i, t⟩).1).1, (true, (tk o (tr ⟨k, i, t⟩).1).2)) else (.ends ⟨4, (tr ⟨k, i, t⟩).2, no⟩, (so, o))) := hide rfl
  rw [hgv.out]
  generalize tr ⟨k, i, t⟩ = p at *
  obtain ⟨b, er⟩ := p
  simp only at HN ⊢
  replace hs := hide hs
  replace h1 := hide h1
  replace h2 := hide h2
  replace h5 := hide h5
  have nXs : Hid (w.heap.size + 1 ≠ Bs) := hide (by have := h1.out.lt; omega)
  have nXo : Hid (w.heap.size + 1 ≠ Bo) := hide (by have := h5.out.lt; omega)
  have nst : Hid (Bs ≠ Bt ∧ Bs ≠ Bo) := hide ⟨h7.1, h7.2.2.2⟩
  replace HT := hide HT
  clear hgv htr hx h3 h4 h6 h7 h8
  by_cases h0 : er = 0
  · subst h0
    rw [if_pos rfl]
    have hb := HT.out.nb o b
    have HC := hide (fun w h => HT.out.call o b Bo w h)
    generalize tk o b = p at *
    obtain ⟨p1, o2⟩ := p
    cases p1 with
    | bes => exact absurd rfl hb
    | on =>
      go_enter Tryz.func134, Tryz.ntmps134
      go_wp2_with fail
      refine (HN.out _).mono ?_
      rintro e w1 ⟨rfl, hb1⟩
      have K2 := hide (next K1.out hb1)
      have X2 := hide (X1.out.keep hb1)
      have s1 := h1.out.keep K2.out
      have z0' : w1.cell? ⟨Bs, 0, none⟩ = some (.bool so) := s1.at' 0
      have ft := s1.fr 0
      have S2 := hide (s1.set 0 (.bool true))
      have C2 := hide ((Chg.refl (· = Bs) w1).set Bs 0 (.bool true) rfl)
      obtain ⟨w2, hw2⟩ : ∃ w2, w1.setCell ⟨Bs, 0, none⟩ (.bool true) = w2 := ⟨_, rfl⟩
      rw [hw2] at S2 C2
      have bt : w2.cell? ⟨Bt, 0, none⟩ = some (.func (.func nT) #[] #[.pointer (some ⟨Bo, 0, none⟩)]) := (C2.out.blk (h2.out.keep K2.out) (Ne.symm nst.out.1)).at' 0
      have HC1 := hide (HC.out w2 (C2.out.blk (h5.out.keep K2.out) (Ne.symm nst.out.2)))
      have X3 := hide (C2.out.blk X2.out nXs.out)
      clear hb1 s1
      go_wp2_with fail
      refine HC1.out.mono ?_
      rintro e w3 ⟨rfl, g3, c3'⟩
      replace g3 := hide g3
      replace c3' := hide c3'
      simp only [stV]
      clear bt z0' ft hw2
      have hX2 := hide (c3'.out.blk X3.out nXo.out)
      have z0 : w3.cell? ⟨w.heap.size + 1, 0, none⟩ = some (.bool false) := hX2.out.at' 0
      have z1 : w3.cell? ⟨w.heap.size + 1, 1, none⟩ = some (.bool false) := hX2.out.at' 1
      have z2 : w3.cell? ⟨w.heap.size + 1, 2, none⟩ = some (.int .i64 0) := hX2.out.at' 2
      have z3 : w3.cell? ⟨w.heap.size + 1, 3, none⟩ = some (.int .i64 0) := hX2.out.at' 3
      have z4 : w3.cell? ⟨w.heap.size + 1, 4, none⟩ = some (.string no) := hX2.out.at' 4
      have zf := hX2.out.fr
      have h3 := blk5 hX2.out (.bool false) (.bool false) (.int .i64 0) (.int .i64 0) (.string no)
      have c3 := hide (chg5 w3 (w.heap.size + 1) (.bool false) (.bool false) (.int .i64 0) (.int .i64 0) (.string no))
      obtain ⟨w9, hw9⟩ : ∃ w9, put5 w3 (w.heap.size + 1) (.bool false) (.bool false) (.int .i64 0) (.int .i64 0) (.string no) = w9 := ⟨_, rfl⟩
      rw [hw9] at h3 c3
      unfold put5 at hw9
      have y0 : w9.cell? ⟨w.heap.size + 1, 0, none⟩ = some (.bool false) := h3.at' 0
      have y1 : w9.cell? ⟨w.heap.size + 1, 1, none⟩ = some (.bool false) := h3.at' 1
      have y2 : w9.cell? ⟨w.heap.size + 1, 2, none⟩ = some (.int .i64 0) := h3.at' 2
      have y3 : w9.cell? ⟨w.heap.size + 1, 3, none⟩ = some (.int .i64 0) := h3.at' 3
      have y4 : w9.cell? ⟨w.heap.size + 1, 4, none⟩ = some (.string no) := h3.at' 4
      replace h3 := hide h3
      go_wp2_with fail
      refine bodyPost_ret (by simp [results, Tryz.results134, go_sem, y0, y1, y2, y3, y4]; try rfl) rfl ?_
      exact ⟨rfl, end5 hS.out (Nat.le_succ _) (jud_mid hs.out K2.out (Nat.le_succ _) S2.out C2.out g3.out c3'.out) c3.out⟩
    | ends y =>
      obtain ⟨y0', y1', y2'⟩ := y
      go_enter Tryz.func134, Tryz.ntmps134
      go_wp2_with fail
      refine (HN.out _).mono ?_
      rintro e w1 ⟨rfl, hb1⟩
      have K2 := hide (next K1.out hb1)
      have X2 := hide (X1.out.keep hb1)
      have s1 := h1.out.keep K2.out
      have z0' : w1.cell? ⟨Bs, 0, none⟩ = some (.bool so) := s1.at' 0
      have ft := s1.fr 0
      have S2 := hide (s1.set 0 (.bool true))
      have C2 := hide ((Chg.refl (· = Bs) w1).set Bs 0 (.bool true) rfl)
      obtain ⟨w2, hw2⟩ : ∃ w2, w1.setCell ⟨Bs, 0, none⟩ (.bool true) = w2 := ⟨_, rfl⟩
      rw [hw2] at S2 C2
      have bt : w2.cell? ⟨Bt, 0, none⟩ = some (.func (.func nT) #[] #[.pointer (some ⟨Bo, 0, none⟩)]) := (C2.out.blk (h2.out.keep K2.out) (Ne.symm nst.out.1)).at' 0
      have HC1 := hide (HC.out w2 (C2.out.blk (h5.out.keep K2.out) (Ne.symm nst.out.2)))
      have X3 := hide (C2.out.blk X2.out nXs.out)
      clear hb1 s1
      go_wp2_with fail
      refine HC1.out.mono ?_
      rintro e w3 ⟨rfl, g3, c3'⟩
      replace g3 := hide g3
      replace c3' := hide c3'
      simp only [stV]
      clear bt z0' ft hw2
      have hX2 := hide (c3'.out.blk X3.out nXo.out)
      have z0 : w3.cell? ⟨w.heap.size + 1, 0, none⟩ = some (.bool false) := hX2.out.at' 0
      have z1 : w3.cell? ⟨w.heap.size + 1, 1, none⟩ = some (.bool false) := hX2.out.at' 1
      have z2 : w3.cell? ⟨w.heap.size + 1, 2, none⟩ = some (.int .i64 0) := hX2.out.at' 2
      have z3 : w3.cell? ⟨w.heap.size + 1, 3, none⟩ = some (.int .i64 0) := hX2.out.at' 3
      have z4 : w3.cell? ⟨w.heap.size + 1, 4, none⟩ = some (.string no) := hX2.out.at' 4
      have zf := hX2.out.fr
      have h3 := blk5 hX2.out (.bool false) (.bool true) (.int .i64 y0') (.int .i64 y1') (.string y2')
      have c3 := hide (chg5 w3 (w.heap.size + 1) (.bool false) (.bool true) (.int .i64 y0') (.int .i64 y1') (.string y2'))
      obtain ⟨w9, hw9⟩ : ∃ w9, put5 w3 (w.heap.size + 1) (.bool false) (.bool true) (.int .i64 y0') (.int .i64 y1') (.string y2') = w9 := ⟨_, rfl⟩
      rw [hw9] at h3 c3
      unfold put5 at hw9
      have y0 : w9.cell? ⟨w.heap.size + 1, 0, none⟩ = some (.bool false) := h3.at' 0
      have y1 : w9.cell? ⟨w.heap.size + 1, 1, none⟩ = some (.bool true) := h3.at' 1
      have y2 : w9.cell? ⟨w.heap.size + 1, 2, none⟩ = some (.int .i64 y0') := h3.at' 2
      have y3 : w9.cell? ⟨w.heap.size + 1, 3, none⟩ = some (.int .i64 y1') := h3.at' 3
      have y4 : w9.cell? ⟨w.heap.size + 1, 4, none⟩ = some (.string y2') := h3.at' 4
      replace h3 := hide h3
      go_wp2_with fail
      refine bodyPost_ret (by simp [results, Tryz.results134, go_sem, y0, y1, y2, y3, y4]; try rfl) rfl ?_
      exact ⟨rfl, end5 hS.out (Nat.le_succ _) (jud_mid hs.out K2.out (Nat.le_succ _) S2.out C2.out g3.out c3'.out) c3.out⟩
  · rw [if_neg h0]
    have q0 : (er != 0) = true := by simp [h0]
    have HF := ffault_is er
    have HE := endWith_is 4 er no
    clear h0
    go_enter Tryz.func134, Tryz.ntmps134
    go_wp2_with fail
    refine (HN.out _).mono ?_
    rintro e w1 ⟨rfl, hb1⟩
    have K2 := hide (next K1.out hb1)
    have X2 := hide (X1.out.keep hb1)
    clear hb1
    go_wp2_with fail
    refine (HF.out _).mono ?_
    rintro e w2 ⟨rfl, hb2⟩
    have K3 := hide (next K2.out hb2)
    have X3 := hide (X2.out.keep hb2)
    clear hb2
    go_wp2_with fail
    refine (HE.out _).mono ?_
    rintro e w3 ⟨rfl, hb3⟩
    have K4 := hide (next K3.out hb3)
    have hX2 := hide (X3.out.keep hb3)
    have z0 : w3.cell? ⟨w.heap.size + 1, 0, none⟩ = some (.bool false) := hX2.out.at' 0
    have z1 : w3.cell? ⟨w.heap.size + 1, 1, none⟩ = some (.bool false) := hX2.out.at' 1
    have z2 : w3.cell? ⟨w.heap.size + 1, 2, none⟩ = some (.int .i64 0) := hX2.out.at' 2
    have z3 : w3.cell? ⟨w.heap.size + 1, 3, none⟩ = some (.int .i64 0) := hX2.out.at' 3
    have z4 : w3.cell? ⟨w.heap.size + 1, 4, none⟩ = some (.string no) := hX2.out.at' 4
    have zf := hX2.out.fr
    have h3 := blk5 hX2.out (.bool false) (.bool true) (.int .i64 4) (.int .i64 er) (.string no)
    have c3 := hide (chg5 w3 (w.heap.size + 1) (.bool false) (.bool true) (.int .i64 4) (.int .i64 er) (.string no))
    obtain ⟨w9, hw9⟩ : ∃ w9, put5 w3 (w.heap.size + 1) (.bool false) (.bool true) (.int .i64 4) (.int .i64 er) (.string no) = w9 := ⟨_, rfl⟩
    rw [hw9] at h3 c3
    unfold put5 at hw9
    have y0 : w9.cell? ⟨w.heap.size + 1, 0, none⟩ = some (.bool false) := h3.at' 0
    have y1 : w9.cell? ⟨w.heap.size + 1, 1, none⟩ = some (.bool true) := h3.at' 1
    have y2 : w9.cell? ⟨w.heap.size + 1, 2, none⟩ = some (.int .i64 4) := h3.at' 2
    have y3 : w9.cell? ⟨w.heap.size + 1, 3, none⟩ = some (.int .i64 er) := h3.at' 3
    have y4 : w9.cell? ⟨w.heap.size + 1, 4, none⟩ = some (.string no) := h3.at' 4
    replace h3 := hide h3
    go_wp2_with fail
    refine bodyPost_ret (by simp [results, Tryz.results134, go_sem, y0, y1, y2, y3, y4]; try rfl) rfl ?_
    exact ⟨rfl, end5 hS.out (Nat.le_succ _) (bel5 hS.out hs.out K4.out (Nat.le_succ _)) c3.out⟩
set_option maxHeartbeats 400000 in
theorem isBlank_is (k i : Int) (t : ByteArray) : CallIs 68 #[vV k i t] (.bool (k == 0)) := by
  intro w
  go_enter Tryz.func68, Tryz.ntmps68
  go_wp2_with fail
  go_ret
  exact ⟨rfl, by go_grown⟩
theorem givB_nb {tr : Va → Bool × Int} {tk : Bool → Bool → Stp × Bool} (h : ∀ o b, (tk o b).1 ≠ .bes) (s : Bool × Bool) (x : Va) : (givB tr tk s x).1 ≠ .bes := by
  unfold givB; split
  · exact h _ _
  · simp
theorem celB_nb {tr : Va → Bool × Int} {tk : Bool → Bool → Stp × Bool} (h : ∀ o b, (tk o b).1 ≠ .bes) (s : Bool × Bool) (x : Va) : (celB tr tk s x).1 ≠ .bes := by
  unfold celB; split
  · simp
  · exact givB_nb h _ _
set_option maxHeartbeats 2000000 in
set_option maxRecDepth 100000 in
theorem jud2_does (tr : Va → Bool × Int) (htr : TruIs tr) (tk : Bool → Bool → Stp × Bool) (nT nL Bs Bt Bg Bl Bo : Nat) (HT : TkB tk nT) : Does (JudS nT nL Bs Bt Bg Bl Bo) (celB tr tk) 136 #[.pointer (some ⟨Bg, 0, none⟩)] := by
  have HG := jud1_does tr htr tk nT nL Bs Bt Bg Bl Bo HT
  refine ⟨?_, ent_of Tryz.func136 (by kernel_rfl) (by kernel_rfl)⟩
  intro s m x w hs hx
  obtain ⟨k, i, t⟩ := x
  have hent := HG.ent
  have hS := hide (jud_stay nT nL Bs Bt Bg Bl Bo)
  have hg3 := hide hs.2.2.1
  have K1 := hide (step (step (Below.refl w.heap.size w) (vO k i t)) (stO false false 0 0 no))
  have V1 : Hid (Blk ((w.alloc (vO k i t)).alloc (stO false false 0 0 no)) w.heap.size #[.int .i64 k, .int .i64 i, .string t] 28) := hide ((Blk.new w _ _).alloc _)
  have X1 : Hid (Blk ((w.alloc (vO k i t)).alloc (stO false false 0 0 no)) (w.heap.size + 1) #[.bool false, .bool false, .int .i64 0, .int .i64 0, .string no] 79) := hide (T9.Blk.new1 w (vO k i t) _ _)
  have hsz : Hid (w.heap.size + 1 < ((w.alloc (vO k i t)).alloc (stO false false 0 0 no)).heap.size) := hide (by simp)
  have HB := isBlank_is k i t
  have hb := givB_nb (tr := tr) HT.nb s ⟨k, i, t⟩
  have HC := hide (fun w h => HG.call s m ⟨k, i, t⟩ w h hx)
  replace hs := hide hs
  clear HG htr HT hx
  by_cases k0 : k = 0
  · subst k0
    have he : celB tr tk s ⟨0, i, t⟩ = (.on, s) := if_pos (.inl rfl)
    rw [he]
    go_enter Tryz.func136, Tryz.ntmps136
    go_wp2_with fail
    refine (HB.out _).mono ?_
    rintro e w1 ⟨rfl, hb1⟩
    have K2 := hide (next K1.out hb1)
    rw [show ((0 : Int) == 0) = true from rfl]
    have hX2 := hide (X1.out.keep hb1)
    have z0 : w1.cell? ⟨w.heap.size + 1, 0, none⟩ = some (.bool false) := hX2.out.at' 0
    have z1 : w1.cell? ⟨w.heap.size + 1, 1, none⟩ = some (.bool false) := hX2.out.at' 1
    have z2 : w1.cell? ⟨w.heap.size + 1, 2, none⟩ = some (.int .i64 0) := hX2.out.at' 2
    have z3 : w1.cell? ⟨w.heap.size + 1, 3, none⟩ = some (.int .i64 0) := hX2.out.at' 3
    have z4 : w1.cell? ⟨w.heap.size + 1, 4, none⟩ = some (.string no) := hX2.out.at' 4
    have zf := hX2.out.fr
    have h3 := blk5 hX2.out (.bool false) (.bool false) (.int .i64 0) (.int .i64 0) (.string no)
    have c3 := hide (chg5 w1 (w.heap.size + 1) (.bool false) (.bool false) (.int .i64 0) (.int .i64 0) (.string no))
    obtain ⟨w9, hw9⟩ : ∃ w9, put5 w1 (w.heap.size + 1) (.bool false) (.bool false) (.int .i64 0) (.int .i64 0) (.string no) = w9 := ⟨_, rfl⟩
    rw [hw9] at h3 c3
    unfold put5 at hw9
    have y0 : w9.cell? ⟨w.heap.size + 1, 0, none⟩ = some (.bool false) := h3.at' 0
    have y1 : w9.cell? ⟨w.heap.size + 1, 1, none⟩ = some (.bool false) := h3.at' 1
    have y2 : w9.cell? ⟨w.heap.size + 1, 2, none⟩ = some (.int .i64 0) := h3.at' 2
    have y3 : w9.cell? ⟨w.heap.size + 1, 3, none⟩ = some (.int .i64 0) := h3.at' 3
    have y4 : w9.cell? ⟨w.heap.size + 1, 4, none⟩ = some (.string no) := h3.at' 4
    replace h3 := hide h3
    go_wp2_with fail
    refine bodyPost_ret (by simp [results, Tryz.results136, go_sem, y0, y1, y2, y3, y4]; try rfl) rfl ?_
    exact ⟨rfl, end5 hS.out (Nat.le_succ _) (bel5 hS.out hs.out K2.out (Nat.le_succ _)) c3.out⟩
  · have q0 : (k == 0) = false := by simp [k0]
    by_cases k3 : k = 3
    · subst k3
      have he : celB tr tk s ⟨3, i, t⟩ = (.on, s) := if_pos (.inr rfl)
      rw [he]
      clear k0
      go_enter Tryz.func136, Tryz.ntmps136
      go_wp2_with fail
      refine (HB.out _).mono ?_
      rintro e w1 ⟨rfl, hb1⟩
      have K2 := hide (next K1.out hb1)
      have v0 : w1.cell? ⟨w.heap.size, 0, none⟩ = some (.int .i64 3) := (V1.out.keep hb1).at' 0
      rw [show ((3 : Int) == 0) = false from rfl]
      have hX2 := hide (X1.out.keep hb1)
      have z0 : w1.cell? ⟨w.heap.size + 1, 0, none⟩ = some (.bool false) := hX2.out.at' 0
      have z1 : w1.cell? ⟨w.heap.size + 1, 1, none⟩ = some (.bool false) := hX2.out.at' 1
      have z2 : w1.cell? ⟨w.heap.size + 1, 2, none⟩ = some (.int .i64 0) := hX2.out.at' 2
      have z3 : w1.cell? ⟨w.heap.size + 1, 3, none⟩ = some (.int .i64 0) := hX2.out.at' 3
      have z4 : w1.cell? ⟨w.heap.size + 1, 4, none⟩ = some (.string no) := hX2.out.at' 4
      have zf := hX2.out.fr
      have h3 := blk5 hX2.out (.bool false) (.bool false) (.int .i64 0) (.int .i64 0) (.string no)
      have c3 := hide (chg5 w1 (w.heap.size + 1) (.bool false) (.bool false) (.int .i64 0) (.int .i64 0) (.string no))
      obtain ⟨w9, hw9⟩ : ∃ w9, put5 w1 (w.heap.size + 1) (.bool false) (.bool false) (.int .i64 0) (.int .i64 0) (.string no) = w9 := ⟨_, rfl⟩
      rw [hw9] at h3 c3
      unfold put5 at hw9
      have y0 : w9.cell? ⟨w.heap.size + 1, 0, none⟩ = some (.bool false) := h3.at' 0
      have y1 : w9.cell? ⟨w.heap.size + 1, 1, none⟩ = some (.bool false) := h3.at' 1
      have y2 : w9.cell? ⟨w.heap.size + 1, 2, none⟩ = some (.int .i64 0) := h3.at' 2
      have y3 : w9.cell? ⟨w.heap.size + 1, 3, none⟩ = some (.int .i64 0) := h3.at' 3
      have y4 : w9.cell? ⟨w.heap.size + 1, 4, none⟩ = some (.string no) := h3.at' 4
      replace h3 := hide h3
      go_wp2_with fail
      refine bodyPost_ret (by simp [results, Tryz.results136, go_sem, y0, y1, y2, y3, y4]; try rfl) rfl ?_
      exact ⟨rfl, end5 hS.out (Nat.le_succ _) (bel5 hS.out hs.out K2.out (Nat.le_succ _)) c3.out⟩
    · have q3 : (k == 3) = false := by simp [k3]
      have he : celB tr tk s ⟨k, i, t⟩ = givB tr tk s ⟨k, i, t⟩ := if_neg (by simp [k0, k3])
      rw [he]
      clear k0 k3 he
      generalize givB tr tk s ⟨k, i, t⟩ = p at *
      obtain ⟨p1, s2⟩ := p
      cases p1 with
      | bes => exact absurd rfl hb
      | on =>
        go_enter Tryz.func136, Tryz.ntmps136
        go_wp2_with fail
        refine (HB.out _).mono ?_
        rintro e w1 ⟨rfl, hb1⟩
        rw [q0]
        have K2 := hide (next K1.out hb1)
        have X2 := hide (X1.out.keep hb1)
        have v0 : w1.cell? ⟨w.heap.size, 0, none⟩ = some (.int .i64 k) := (V1.out.keep hb1).at' 0
        have v1 : w1.cell? ⟨w.heap.size, 1, none⟩ = some (.int .i64 i) := (V1.out.keep hb1).at' 1
        have v2 : w1.cell? ⟨w.heap.size, 2, none⟩ = some (.string t) := (V1.out.keep hb1).at' 2
        have bk : w1.cell? ⟨Bg, 0, none⟩ = some (.func (.func 134) #[] #[.pointer (some ⟨Bs, 0, none⟩), .pointer (some ⟨Bt, 0, none⟩)]) := (hg3.out.keep K2.out).at' 0
        have HC1 := hide (HC.out w1 (sm_of hS.out hs.out K2.out))
        have hsz2 : Hid (w.heap.size + 1 < w1.heap.size) := hide (Nat.lt_of_lt_of_le hsz.out hb1.size)
        clear hb1
        go_wp2_with fail
        refine HC1.out.mono ?_
        rintro e w2 ⟨rfl, hg⟩
        replace hg := hide hg
        simp only [stV]
        clear bk v0 v1 v2
        have hX2 := hide (zero5 X2.out (blk_low hS.out hs.out (Nat.le_succ _)) hg.out)
        have z0 : w2.cell? ⟨w.heap.size + 1, 0, none⟩ = some (.bool false) := hX2.out.at' 0
        have z1 : w2.cell? ⟨w.heap.size + 1, 1, none⟩ = some (.bool false) := hX2.out.at' 1
        have z2 : w2.cell? ⟨w.heap.size + 1, 2, none⟩ = some (.int .i64 0) := hX2.out.at' 2
        have z3 : w2.cell? ⟨w.heap.size + 1, 3, none⟩ = some (.int .i64 0) := hX2.out.at' 3
        have z4 : w2.cell? ⟨w.heap.size + 1, 4, none⟩ = some (.string no) := hX2.out.at' 4
        have zf := hX2.out.fr
        have h3 := blk5 hX2.out (.bool false) (.bool false) (.int .i64 0) (.int .i64 0) (.string no)
        have c3 := hide (chg5 w2 (w.heap.size + 1) (.bool false) (.bool false) (.int .i64 0) (.int .i64 0) (.string no))
        obtain ⟨w9, hw9⟩ : ∃ w9, put5 w2 (w.heap.size + 1) (.bool false) (.bool false) (.int .i64 0) (.int .i64 0) (.string no) = w9 := ⟨_, rfl⟩
        rw [hw9] at h3 c3
        unfold put5 at hw9
        have y0 : w9.cell? ⟨w.heap.size + 1, 0, none⟩ = some (.bool false) := h3.at' 0
        have y1 : w9.cell? ⟨w.heap.size + 1, 1, none⟩ = some (.bool false) := h3.at' 1
        have y2 : w9.cell? ⟨w.heap.size + 1, 2, none⟩ = some (.int .i64 0) := h3.at' 2
        have y3 : w9.cell? ⟨w.heap.size + 1, 3, none⟩ = some (.int .i64 0) := h3.at' 3
        have y4 : w9.cell? ⟨w.heap.size + 1, 4, none⟩ = some (.string no) := h3.at' 4
        replace h3 := hide h3
        go_wp2_with fail
        refine bodyPost_ret (by simp [results, Tryz.results136, go_sem, y0, y1, y2, y3, y4]; try rfl) rfl ?_
        exact ⟨rfl, end5 hS.out (Nat.le_succ _) (mid5 hS.out hs.out K2.out (Nat.le_succ _) hsz2.out hg.out) c3.out⟩
      | ends y =>
        obtain ⟨y0', y1', y2'⟩ := y
        go_enter Tryz.func136, Tryz.ntmps136
        go_wp2_with fail
        refine (HB.out _).mono ?_
        rintro e w1 ⟨rfl, hb1⟩
        rw [q0]
        have K2 := hide (next K1.out hb1)
        have X2 := hide (X1.out.keep hb1)
        have v0 : w1.cell? ⟨w.heap.size, 0, none⟩ = some (.int .i64 k) := (V1.out.keep hb1).at' 0
        have v1 : w1.cell? ⟨w.heap.size, 1, none⟩ = some (.int .i64 i) := (V1.out.keep hb1).at' 1
        have v2 : w1.cell? ⟨w.heap.size, 2, none⟩ = some (.string t) := (V1.out.keep hb1).at' 2
        have bk : w1.cell? ⟨Bg, 0, none⟩ = some (.func (.func 134) #[] #[.pointer (some ⟨Bs, 0, none⟩), .pointer (some ⟨Bt, 0, none⟩)]) := (hg3.out.keep K2.out).at' 0
        have HC1 := hide (HC.out w1 (sm_of hS.out hs.out K2.out))
        have hsz2 : Hid (w.heap.size + 1 < w1.heap.size) := hide (Nat.lt_of_lt_of_le hsz.out hb1.size)
        clear hb1
        go_wp2_with fail
        refine HC1.out.mono ?_
        rintro e w2 ⟨rfl, hg⟩
        replace hg := hide hg
        simp only [stV]
        clear bk v0 v1 v2
        have hX2 := hide (zero5 X2.out (blk_low hS.out hs.out (Nat.le_succ _)) hg.out)
        have z0 : w2.cell? ⟨w.heap.size + 1, 0, none⟩ = some (.bool false) := hX2.out.at' 0
        have z1 : w2.cell? ⟨w.heap.size + 1, 1, none⟩ = some (.bool false) := hX2.out.at' 1
        have z2 : w2.cell? ⟨w.heap.size + 1, 2, none⟩ = some (.int .i64 0) := hX2.out.at' 2
        have z3 : w2.cell? ⟨w.heap.size + 1, 3, none⟩ = some (.int .i64 0) := hX2.out.at' 3
        have z4 : w2.cell? ⟨w.heap.size + 1, 4, none⟩ = some (.string no) := hX2.out.at' 4
        have zf := hX2.out.fr
        have h3 := blk5 hX2.out (.bool false) (.bool true) (.int .i64 y0') (.int .i64 y1') (.string y2')
        have c3 := hide (chg5 w2 (w.heap.size + 1) (.bool false) (.bool true) (.int .i64 y0') (.int .i64 y1') (.string y2'))
        obtain ⟨w9, hw9⟩ : ∃ w9, put5 w2 (w.heap.size + 1) (.bool false) (.bool true) (.int .i64 y0') (.int .i64 y1') (.string y2') = w9 := ⟨_, rfl⟩
        rw [hw9] at h3 c3
        unfold put5 at hw9
        have y0 : w9.cell? ⟨w.heap.size + 1, 0, none⟩ = some (.bool false) := h3.at' 0
        have y1 : w9.cell? ⟨w.heap.size + 1, 1, none⟩ = some (.bool true) := h3.at' 1
        have y2 : w9.cell? ⟨w.heap.size + 1, 2, none⟩ = some (.int .i64 y0') := h3.at' 2
        have y3 : w9.cell? ⟨w.heap.size + 1, 3, none⟩ = some (.int .i64 y1') := h3.at' 3
        have y4 : w9.cell? ⟨w.heap.size + 1, 4, none⟩ = some (.string y2') := h3.at' 4
        replace h3 := hide h3
        go_wp2_with fail
        refine bodyPost_ret (by simp [results, Tryz.results136, go_sem, y0, y1, y2, y3, y4]; try rfl) rfl ?_
        exact ⟨rfl, end5 hS.out (Nat.le_succ _) (mid5 hS.out hs.out K2.out (Nat.le_succ _) hsz2.out hg.out) c3.out⟩
set_option maxHeartbeats 2000000 in
set_option maxRecDepth 100000 in
theorem jud3_ends (la : Bool → Bool) (nT nL Bs Bt Bg Bl Bo : Nat) (HL : LaB la nL) : Ends (JudS nT nL Bs Bt Bg Bl Bo) (lastB la) 137 #[.pointer (some ⟨Bs, 0, none⟩), .pointer (some ⟨Bl, 0, none⟩)] := by
  refine ⟨?_, ent_of Tryz.func137 (by kernel_rfl) (by kernel_rfl)⟩
  intro s m w hs
  obtain ⟨so, o⟩ := s
  have hent := HL.ent
  have bs : (w.alloc (vO 0 0 no)).cell? ⟨Bs, 0, none⟩ = some (.bool so) := (hs.1.alloc _).at' 0
  have bl : (w.alloc (vO 0 0 no)).cell? ⟨Bl, 0, none⟩ = some (.func (.func nL) #[] #[.pointer (some ⟨Bo, 0, none⟩)]) := (hs.2.2.2.1.alloc _).at' 0
  have HC := hide (HL.call o Bo (w.alloc (vO 0 0 no)) (hs.2.2.2.2.1.alloc _))
  replace hs := hide hs
  clear HL
  cases so with
  | false =>
    have HF := ffault_is 4
    go_enter Tryz.func137, Tryz.ntmps137
    go_wp2_with fail
    refine (HF.out _).mono ?_
    rintro e w1 ⟨rfl, hb1⟩
    have KE := hide (next (step (Below.refl w.heap.size w) _) hb1)
    clear bs bl
    have cr := hide ((O3.new w (.int .i64 0) (.int .i64 0) (.string no) 28).keep hb1)
    have u0 := cr.out.1.1
    have u1 := cr.out.1.2.1
    have u2 := cr.out.1.2.2
    have uf := cr.out.2
    have Bq := hide (below_put3 (b := w.heap.size) KE.out (Nat.le_refl _) (.int .i64 4) (.int .i64 4) (.string no))
    replace cr := hide (cr.out.put (.int .i64 4) (.int .i64 4) (.string no))
    obtain ⟨wq, hwq⟩ : ∃ wq, put3 w1 w.heap.size (.int .i64 4) (.int .i64 4) (.string no) = wq := ⟨_, rfl⟩
    rw [hwq] at Bq cr
    unfold put3 at hwq
    have v0 := cr.out.1.1
    have v1 := cr.out.1.2.1
    have v2 := cr.out.1.2.2
    go_wp2_with fail
    refine bodyPost_ret (by simp [results, Tryz.results137, go_sem, v0, v1, v2]; try rfl) rfl ?_
    exact ⟨rfl, Chg.of_below Bq.out⟩
  | true =>
    have HT : CallIs 132 #[.bool (la o)] (vV 2 (b2i (la o)) no) := ftruth_is (la o)
    have he : lastB la (true, o) = ⟨2, b2i (la o), no⟩ := rfl
    rw [he]
    generalize la o = r at *
    generalize b2i r = ri at *
    go_enter Tryz.func137, Tryz.ntmps137
    go_wp2_with fail
    refine HC.out.mono ?_
    rintro e w1 ⟨rfl, hb1⟩
    have K1 := hide (next (step (Below.refl w.heap.size w) _) hb1)
    have c1 := hide ((O3.new w (.int .i64 0) (.int .i64 0) (.string no) 28).keep hb1)
    clear hb1 bs bl
    go_wp2_with fail
    refine (HT.out _).mono ?_
    rintro e w2 ⟨rfl, hb2⟩
    have KE := hide (next K1.out hb2)
    have cr := hide (c1.out.keep hb2)
    have u0 := cr.out.1.1
    have u1 := cr.out.1.2.1
    have u2 := cr.out.1.2.2
    have uf := cr.out.2
    have Bq := hide (below_put3 (b := w.heap.size) KE.out (Nat.le_refl _) (.int .i64 2) (.int .i64 ri) (.string no))
    replace cr := hide (cr.out.put (.int .i64 2) (.int .i64 ri) (.string no))
    obtain ⟨wq, hwq⟩ : ∃ wq, put3 w2 w.heap.size (.int .i64 2) (.int .i64 ri) (.string no) = wq := ⟨_, rfl⟩
    rw [hwq] at Bq cr
    unfold put3 at hwq
    have v0 := cr.out.1.1
    have v1 := cr.out.1.2.1
    have v2 := cr.out.1.2.2
    go_wp2_with fail
    refine bodyPost_ret (by simp [results, Tryz.results137, go_sem, v0, v1, v2]; try rfl) rfl ?_
    exact ⟨rfl, Chg.of_below Bq.out⟩
set_option maxHeartbeats 2000000 in
set_option maxRecDepth 100000 in
theorem judging_is (a : Option Addr) (len cap nT nL Bo : Nat) (w : World) : Calls Tryz.prog 84 #[.slice a len cap, .func (.func nT) #[] #[.pointer (some ⟨Bo, 0, none⟩)], .func (.func nL) #[] #[.pointer (some ⟨Bo, 0, none⟩)]] w fun e w' => e = .returned (.agg #[.slice a len cap, .func (.func 134) #[] #[.pointer (some ⟨w.heap.size + 1 + 1 + 1, 0, none⟩), .pointer (some ⟨w.heap.size, 0, none⟩)], .func (.func 136) #[] #[.pointer (some ⟨w.heap.size + 1 + 1 + 1 + 1, 0, none⟩)], .nilFunc, .nilFunc, .func (.func 137) #[] #[.pointer (some ⟨w.heap.size + 1 + 1 + 1, 0, none⟩), .pointer (some ⟨w.heap.size + 1, 0, none⟩)]]) ∧ w' = ((((w.alloc (.cells #[.func (.func nT) #[] #[.pointer (some ⟨Bo, 0, none⟩)]] 105)).alloc (.cells #[.func (.func nL) #[] #[.pointer (some ⟨Bo, 0, none⟩)]] 23)).alloc (.cells #[.slice a len cap, .func (.func 134) #[] #[.pointer (some ⟨w.heap.size + 1 + 1 + 1, 0, none⟩), .pointer (some ⟨w.heap.size, 0, none⟩)], .func (.func 136) #[] #[.pointer (some ⟨w.heap.size + 1 + 1 + 1 + 1, 0, none⟩)], .nilFunc, .nilFunc, .func (.func 137) #[] #[.pointer (some ⟨w.heap.size + 1 + 1 + 1, 0, none⟩), .pointer (some ⟨w.heap.size + 1, 0, none⟩)]] 70)).alloc (.cells #[.bool false] 4)).alloc (.cells #[.func (.func 134) #[] #[.pointer (some ⟨w.heap.size + 1 + 1 + 1, 0, none⟩), .pointer (some ⟨w.heap.size, 0, none⟩)]] 66) := by
  go_enter Tryz.func84, Tryz.ntmps84
  go_wp2_with fail
  refine bodyPost_ret (v := .agg #[.slice a len cap, .func (.func 134) #[] #[.pointer (some ⟨w.heap.size + 1 + 1 + 1, 0, none⟩), .pointer (some ⟨w.heap.size, 0, none⟩)], .func (.func 136) #[] #[.pointer (some ⟨w.heap.size + 1 + 1 + 1 + 1, 0, none⟩)], .nilFunc, .nilFunc, .func (.func 137) #[] #[.pointer (some ⟨w.heap.size + 1 + 1 + 1, 0, none⟩), .pointer (some ⟨w.heap.size + 1, 0, none⟩)]]) (by simp [results, Tryz.results84, go_sem]; try rfl) rfl ?_
  exact ⟨rfl, rfl⟩
set_option maxHeartbeats 2000000 in
set_option maxRecDepth 100000 in
theorem until_is (a : Option Addr) (len cap : Nat) (d : Bool) (w : World) : Calls Tryz.prog 82 #[.slice a len cap, .bool d] w fun e w' => e = .returned (.agg #[.slice a len cap, .func (.func 134) #[] #[.pointer (some ⟨w.heap.size + 5, 0, none⟩), .pointer (some ⟨w.heap.size + 2, 0, none⟩)], .func (.func 136) #[] #[.pointer (some ⟨w.heap.size + 6, 0, none⟩)], .nilFunc, .nilFunc, .func (.func 137) #[] #[.pointer (some ⟨w.heap.size + 5, 0, none⟩), .pointer (some ⟨w.heap.size + 3, 0, none⟩)]]) ∧ JudS 131 133 (w.heap.size + 5) (w.heap.size + 2) (w.heap.size + 6) (w.heap.size + 3) (w.heap.size) (false, d) (fun k => k = w.heap.size + 5 ∨ k = w.heap.size + 2 ∨ k = w.heap.size + 6 ∨ k = w.heap.size + 3 ∨ k = w.heap.size) w' ∧ Below w.heap.size w w' := by
  go_enter Tryz.func82, Tryz.ntmps82
  go_wp2_with fail
  refine (judging_is _ _ _ _ _ _ _).mono ?_
  rintro e w1 ⟨rfl, rfl⟩
  go_wp2_with fail
  refine bodyPost_ret (v := .agg #[.slice a len cap, .func (.func 134) #[] #[.pointer (some ⟨w.heap.size + 5, 0, none⟩), .pointer (some ⟨w.heap.size + 2, 0, none⟩)], .func (.func 136) #[] #[.pointer (some ⟨w.heap.size + 6, 0, none⟩)], .nilFunc, .nilFunc, .func (.func 137) #[] #[.pointer (some ⟨w.heap.size + 5, 0, none⟩), .pointer (some ⟨w.heap.size + 3, 0, none⟩)]]) (by simp [results, Tryz.results82, go_sem]; try rfl) rfl ?_
  refine ⟨rfl, ⟨(blk_at _ _ (by simp) _ _).alloc _, ((((blk_at _ _ (by simp) _ _).alloc _).alloc _).alloc _).alloc _, blk_at _ _ (by simp) _ _, (((blk_at _ _ (by simp) _ _).alloc _).alloc _).alloc _, ((((((blk_at _ _ (by simp) _ _).alloc _).alloc _).alloc _).alloc _).alloc _).alloc _, rfl, by omega, by omega⟩, by go_grown⟩
set_option maxHeartbeats 2000000 in
set_option maxRecDepth 100000 in
theorem xor_is (a : Option Addr) (len cap : Nat) (w : World) : Calls Tryz.prog 44 #[.slice a len cap] w fun e w' => e = .returned (.agg #[.slice a len cap, .func (.func 134) #[] #[.pointer (some ⟨w.heap.size + 5, 0, none⟩), .pointer (some ⟨w.heap.size + 2, 0, none⟩)], .func (.func 136) #[] #[.pointer (some ⟨w.heap.size + 6, 0, none⟩)], .nilFunc, .nilFunc, .func (.func 137) #[] #[.pointer (some ⟨w.heap.size + 5, 0, none⟩), .pointer (some ⟨w.heap.size + 3, 0, none⟩)]]) ∧ JudS 83 85 (w.heap.size + 5) (w.heap.size + 2) (w.heap.size + 6) (w.heap.size + 3) (w.heap.size + 1) (false, false) (fun k => k = w.heap.size + 5 ∨ k = w.heap.size + 2 ∨ k = w.heap.size + 6 ∨ k = w.heap.size + 3 ∨ k = w.heap.size + 1) w' ∧ Below w.heap.size w w' := by
  go_enter Tryz.func44, Tryz.ntmps44
  go_wp2_with fail
  refine (judging_is _ _ _ _ _ _ _).mono ?_
  rintro e w1 ⟨rfl, rfl⟩
  go_wp2_with fail
  refine bodyPost_ret (v := .agg #[.slice a len cap, .func (.func 134) #[] #[.pointer (some ⟨w.heap.size + 5, 0, none⟩), .pointer (some ⟨w.heap.size + 2, 0, none⟩)], .func (.func 136) #[] #[.pointer (some ⟨w.heap.size + 6, 0, none⟩)], .nilFunc, .nilFunc, .func (.func 137) #[] #[.pointer (some ⟨w.heap.size + 5, 0, none⟩), .pointer (some ⟨w.heap.size + 3, 0, none⟩)]]) (by simp [results, Tryz.results44, go_sem]; try rfl) rfl ?_
  refine ⟨rfl, ⟨(blk_at _ _ (by simp) _ _).alloc _, ((((blk_at _ _ (by simp) _ _).alloc _).alloc _).alloc _).alloc _, blk_at _ _ (by simp) _ _, (((blk_at _ _ (by simp) _ _).alloc _).alloc _).alloc _, (((((blk_at _ _ (by simp) _ _).alloc _).alloc _).alloc _).alloc _).alloc _, rfl, by omega, by omega⟩, by go_grown⟩
set_option maxHeartbeats 2000000 in
set_option maxRecDepth 100000 in
theorem and_is (a : Option Addr) (len cap : Nat) (w : World) : Calls Tryz.prog 42 #[.slice a len cap] w fun e w' => e = .returned (.agg #[.slice a len cap, .func (.func 134) #[] #[.pointer (some ⟨w.heap.size + 6, 0, none⟩), .pointer (some ⟨w.heap.size + 3, 0, none⟩)], .func (.func 136) #[] #[.pointer (some ⟨w.heap.size + 7, 0, none⟩)], .nilFunc, .nilFunc, .func (.func 137) #[] #[.pointer (some ⟨w.heap.size + 6, 0, none⟩), .pointer (some ⟨w.heap.size + 4, 0, none⟩)]]) ∧ JudS 131 133 (w.heap.size + 6) (w.heap.size + 3) (w.heap.size + 7) (w.heap.size + 4) (w.heap.size + 1) (false, false) (fun k => k = w.heap.size + 6 ∨ k = w.heap.size + 3 ∨ k = w.heap.size + 7 ∨ k = w.heap.size + 4 ∨ k = w.heap.size + 1) w' ∧ Below w.heap.size w w' := by
  have HU := until_is a len cap false (w.alloc (.cells #[.slice none 0 0, .nilFunc, .nilFunc, .nilFunc, .nilFunc, .nilFunc] 70))
  simp only [World.size_alloc, Nat.add_assoc, Nat.reduceAdd] at HU
  replace HU := hide HU
  have hS := hide (jud_stay 131 133 (w.heap.size + 6) (w.heap.size + 3) (w.heap.size + 7) (w.heap.size + 4) (w.heap.size + 1))
  have B0 := hide (Blk.new w #[.slice none 0 0, .nilFunc, .nilFunc, .nilFunc, .nilFunc, .nilFunc] 70)
  go_enter Tryz.func42, Tryz.ntmps42
  go_wp2_with fail
  refine HU.out.mono ?_
  rintro e w1 ⟨rfl, h1, hb1'⟩
  have hb1 : Below (w.alloc (.cells #[.slice none 0 0, .nilFunc, .nilFunc, .nilFunc, .nilFunc, .nilFunc] 70)).heap.size (w.alloc (.cells #[.slice none 0 0, .nilFunc, .nilFunc, .nilFunc, .nilFunc, .nilFunc] 70)) w1 := by rw [World.size_alloc]; exact hb1'
  clear hb1'
  have KE := hide (next (step (Below.refl w.heap.size w) (.cells #[.slice none 0 0, .nilFunc, .nilFunc, .nilFunc, .nilFunc, .nilFunc] 70)) hb1)
  have B1 := B0.out.keep hb1
  have z0 : w1.cell? ⟨w.heap.size, 0, none⟩ = some (.slice none 0 0) := B1.at' 0
  have z1 : w1.cell? ⟨w.heap.size, 1, none⟩ = some .nilFunc := B1.at' 1
  have z2 : w1.cell? ⟨w.heap.size, 2, none⟩ = some .nilFunc := B1.at' 2
  have z3 : w1.cell? ⟨w.heap.size, 3, none⟩ = some .nilFunc := B1.at' 3
  have z4 : w1.cell? ⟨w.heap.size, 4, none⟩ = some .nilFunc := B1.at' 4
  have z5 : w1.cell? ⟨w.heap.size, 5, none⟩ = some .nilFunc := B1.at' 5
  have zf := B1.fr
  have h9 := ((((((B1.set 0 (.slice a len cap)).set 1 (.func (.func 134) #[] #[.pointer (some ⟨w.heap.size + 6, 0, none⟩), .pointer (some ⟨w.heap.size + 3, 0, none⟩)])).set 2 (.func (.func 136) #[] #[.pointer (some ⟨w.heap.size + 7, 0, none⟩)])).set 3 (.nilFunc)).set 4 (.nilFunc)).set 5 (.func (.func 137) #[] #[.pointer (some ⟨w.heap.size + 6, 0, none⟩), .pointer (some ⟨w.heap.size + 4, 0, none⟩)]))
  have c9 := hide (((((((Chg.refl (· = w.heap.size) w1).set w.heap.size 0 (.slice a len cap) rfl).set w.heap.size 1 (.func (.func 134) #[] #[.pointer (some ⟨w.heap.size + 6, 0, none⟩), .pointer (some ⟨w.heap.size + 3, 0, none⟩)]) rfl).set w.heap.size 2 (.func (.func 136) #[] #[.pointer (some ⟨w.heap.size + 7, 0, none⟩)]) rfl).set w.heap.size 3 (.nilFunc) rfl).set w.heap.size 4 (.nilFunc) rfl).set w.heap.size 5 (.func (.func 137) #[] #[.pointer (some ⟨w.heap.size + 6, 0, none⟩), .pointer (some ⟨w.heap.size + 4, 0, none⟩)]) rfl)
  obtain ⟨w9, hw9⟩ : ∃ w9, ((((((w1.setCell ⟨w.heap.size, 0, none⟩ (.slice a len cap)).setCell ⟨w.heap.size, 1, none⟩ (.func (.func 134) #[] #[.pointer (some ⟨w.heap.size + 6, 0, none⟩), .pointer (some ⟨w.heap.size + 3, 0, none⟩)])).setCell ⟨w.heap.size, 2, none⟩ (.func (.func 136) #[] #[.pointer (some ⟨w.heap.size + 7, 0, none⟩)])).setCell ⟨w.heap.size, 3, none⟩ (.nilFunc)).setCell ⟨w.heap.size, 4, none⟩ (.nilFunc)).setCell ⟨w.heap.size, 5, none⟩ (.func (.func 137) #[] #[.pointer (some ⟨w.heap.size + 6, 0, none⟩), .pointer (some ⟨w.heap.size + 4, 0, none⟩)])) = w9 := ⟨_, rfl⟩
  rw [hw9] at h9 c9
  have y0 : w9.cell? ⟨w.heap.size, 0, none⟩ = some (.slice a len cap) := h9.at' 0
  have y1 : w9.cell? ⟨w.heap.size, 1, none⟩ = some (.func (.func 134) #[] #[.pointer (some ⟨w.heap.size + 6, 0, none⟩), .pointer (some ⟨w.heap.size + 3, 0, none⟩)]) := h9.at' 1
  have y2 : w9.cell? ⟨w.heap.size, 2, none⟩ = some (.func (.func 136) #[] #[.pointer (some ⟨w.heap.size + 7, 0, none⟩)]) := h9.at' 2
  have y3 : w9.cell? ⟨w.heap.size, 3, none⟩ = some (.nilFunc) := h9.at' 3
  have y4 : w9.cell? ⟨w.heap.size, 4, none⟩ = some (.nilFunc) := h9.at' 4
  have y5 : w9.cell? ⟨w.heap.size, 5, none⟩ = some (.func (.func 137) #[] #[.pointer (some ⟨w.heap.size + 6, 0, none⟩), .pointer (some ⟨w.heap.size + 4, 0, none⟩)]) := h9.at' 5
  replace h9 := hide h9
  replace h1 := hide h1
  clear B1 hb1
  go_wp2_with fail
  refine bodyPost_ret (v := .agg #[.slice a len cap, .func (.func 134) #[] #[.pointer (some ⟨w.heap.size + 6, 0, none⟩), .pointer (some ⟨w.heap.size + 3, 0, none⟩)], .func (.func 136) #[] #[.pointer (some ⟨w.heap.size + 7, 0, none⟩)], .nilFunc, .nilFunc, .func (.func 137) #[] #[.pointer (some ⟨w.heap.size + 6, 0, none⟩), .pointer (some ⟨w.heap.size + 4, 0, none⟩)]]) (by simp [results, Tryz.results42, go_sem, y0, y1, y2, y3, y4, y5]; try rfl) rfl ?_
  exact ⟨rfl, hS.out.same h1.out (fun k hk => c9.out.block k (hS.out.lt h1.out k hk) (by omega)), bel_new KE.out (Nat.le_refl _) c9.out⟩
set_option maxHeartbeats 2000000 in
set_option maxRecDepth 100000 in
theorem or_is (a : Option Addr) (len cap : Nat) (w : World) : Calls Tryz.prog 43 #[.slice a len cap] w fun e w' => e = .returned (.agg #[.slice a len cap, .func (.func 134) #[] #[.pointer (some ⟨w.heap.size + 6, 0, none⟩), .pointer (some ⟨w.heap.size + 3, 0, none⟩)], .func (.func 136) #[] #[.pointer (some ⟨w.heap.size + 7, 0, none⟩)], .nilFunc, .nilFunc, .func (.func 137) #[] #[.pointer (some ⟨w.heap.size + 6, 0, none⟩), .pointer (some ⟨w.heap.size + 4, 0, none⟩)]]) ∧ JudS 131 133 (w.heap.size + 6) (w.heap.size + 3) (w.heap.size + 7) (w.heap.size + 4) (w.heap.size + 1) (false, true) (fun k => k = w.heap.size + 6 ∨ k = w.heap.size + 3 ∨ k = w.heap.size + 7 ∨ k = w.heap.size + 4 ∨ k = w.heap.size + 1) w' ∧ Below w.heap.size w w' := by
  have HU := until_is a len cap true (w.alloc (.cells #[.slice none 0 0, .nilFunc, .nilFunc, .nilFunc, .nilFunc, .nilFunc] 70))
  simp only [World.size_alloc, Nat.add_assoc, Nat.reduceAdd] at HU
  replace HU := hide HU
  have hS := hide (jud_stay 131 133 (w.heap.size + 6) (w.heap.size + 3) (w.heap.size + 7) (w.heap.size + 4) (w.heap.size + 1))
  have B0 := hide (Blk.new w #[.slice none 0 0, .nilFunc, .nilFunc, .nilFunc, .nilFunc, .nilFunc] 70)
  go_enter Tryz.func43, Tryz.ntmps43
  go_wp2_with fail
  refine HU.out.mono ?_
  rintro e w1 ⟨rfl, h1, hb1'⟩
  have hb1 : Below (w.alloc (.cells #[.slice none 0 0, .nilFunc, .nilFunc, .nilFunc, .nilFunc, .nilFunc] 70)).heap.size (w.alloc (.cells #[.slice none 0 0, .nilFunc, .nilFunc, .nilFunc, .nilFunc, .nilFunc] 70)) w1 := by rw [World.size_alloc]; exact hb1'
  clear hb1'
  have KE := hide (next (step (Below.refl w.heap.size w) (.cells #[.slice none 0 0, .nilFunc, .nilFunc, .nilFunc, .nilFunc, .nilFunc] 70)) hb1)
  have B1 := B0.out.keep hb1
  have z0 : w1.cell? ⟨w.heap.size, 0, none⟩ = some (.slice none 0 0) := B1.at' 0
  have z1 : w1.cell? ⟨w.heap.size, 1, none⟩ = some .nilFunc := B1.at' 1
  have z2 : w1.cell? ⟨w.heap.size, 2, none⟩ = some .nilFunc := B1.at' 2
  have z3 : w1.cell? ⟨w.heap.size, 3, none⟩ = some .nilFunc := B1.at' 3
  have z4 : w1.cell? ⟨w.heap.size, 4, none⟩ = some .nilFunc := B1.at' 4
  have z5 : w1.cell? ⟨w.heap.size, 5, none⟩ = some .nilFunc := B1.at' 5
  have zf := B1.fr
  have h9 := ((((((B1.set 0 (.slice a len cap)).set 1 (.func (.func 134) #[] #[.pointer (some ⟨w.heap.size + 6, 0, none⟩), .pointer (some ⟨w.heap.size + 3, 0, none⟩)])).set 2 (.func (.func 136) #[] #[.pointer (some ⟨w.heap.size + 7, 0, none⟩)])).set 3 (.nilFunc)).set 4 (.nilFunc)).set 5 (.func (.func 137) #[] #[.pointer (some ⟨w.heap.size + 6, 0, none⟩), .pointer (some ⟨w.heap.size + 4, 0, none⟩)]))
  have c9 := hide (((((((Chg.refl (· = w.heap.size) w1).set w.heap.size 0 (.slice a len cap) rfl).set w.heap.size 1 (.func (.func 134) #[] #[.pointer (some ⟨w.heap.size + 6, 0, none⟩), .pointer (some ⟨w.heap.size + 3, 0, none⟩)]) rfl).set w.heap.size 2 (.func (.func 136) #[] #[.pointer (some ⟨w.heap.size + 7, 0, none⟩)]) rfl).set w.heap.size 3 (.nilFunc) rfl).set w.heap.size 4 (.nilFunc) rfl).set w.heap.size 5 (.func (.func 137) #[] #[.pointer (some ⟨w.heap.size + 6, 0, none⟩), .pointer (some ⟨w.heap.size + 4, 0, none⟩)]) rfl)
  obtain ⟨w9, hw9⟩ : ∃ w9, ((((((w1.setCell ⟨w.heap.size, 0, none⟩ (.slice a len cap)).setCell ⟨w.heap.size, 1, none⟩ (.func (.func 134) #[] #[.pointer (some ⟨w.heap.size + 6, 0, none⟩), .pointer (some ⟨w.heap.size + 3, 0, none⟩)])).setCell ⟨w.heap.size, 2, none⟩ (.func (.func 136) #[] #[.pointer (some ⟨w.heap.size + 7, 0, none⟩)])).setCell ⟨w.heap.size, 3, none⟩ (.nilFunc)).setCell ⟨w.heap.size, 4, none⟩ (.nilFunc)).setCell ⟨w.heap.size, 5, none⟩ (.func (.func 137) #[] #[.pointer (some ⟨w.heap.size + 6, 0, none⟩), .pointer (some ⟨w.heap.size + 4, 0, none⟩)])) = w9 := ⟨_, rfl⟩
  rw [hw9] at h9 c9
  have y0 : w9.cell? ⟨w.heap.size, 0, none⟩ = some (.slice a len cap) := h9.at' 0
  have y1 : w9.cell? ⟨w.heap.size, 1, none⟩ = some (.func (.func 134) #[] #[.pointer (some ⟨w.heap.size + 6, 0, none⟩), .pointer (some ⟨w.heap.size + 3, 0, none⟩)]) := h9.at' 1
  have y2 : w9.cell? ⟨w.heap.size, 2, none⟩ = some (.func (.func 136) #[] #[.pointer (some ⟨w.heap.size + 7, 0, none⟩)]) := h9.at' 2
  have y3 : w9.cell? ⟨w.heap.size, 3, none⟩ = some (.nilFunc) := h9.at' 3
  have y4 : w9.cell? ⟨w.heap.size, 4, none⟩ = some (.nilFunc) := h9.at' 4
  have y5 : w9.cell? ⟨w.heap.size, 5, none⟩ = some (.func (.func 137) #[] #[.pointer (some ⟨w.heap.size + 6, 0, none⟩), .pointer (some ⟨w.heap.size + 4, 0, none⟩)]) := h9.at' 5
  replace h9 := hide h9
  replace h1 := hide h1
  clear B1 hb1
  go_wp2_with fail
  refine bodyPost_ret (v := .agg #[.slice a len cap, .func (.func 134) #[] #[.pointer (some ⟨w.heap.size + 6, 0, none⟩), .pointer (some ⟨w.heap.size + 3, 0, none⟩)], .func (.func 136) #[] #[.pointer (some ⟨w.heap.size + 7, 0, none⟩)], .nilFunc, .nilFunc, .func (.func 137) #[] #[.pointer (some ⟨w.heap.size + 6, 0, none⟩), .pointer (some ⟨w.heap.size + 4, 0, none⟩)]]) (by simp [results, Tryz.results43, go_sem, y0, y1, y2, y3, y4, y5]; try rfl) rfl ?_
  exact ⟨rfl, hS.out.same h1.out (fun k hk => c9.out.block k (hS.out.lt h1.out k hk) (by omega)), bel_new KE.out (Nat.le_refl _) c9.out⟩
theorem and_mkis (tr : Va → Bool × Int) (htr : TruIs tr) : MkIs 42 (false, false) (givB tr untT) (celB tr untT) (lastB (! ·)) := by
  refine ⟨fun w a len cap => (and_is a len cap w).mono fun e w' ⟨h1, h2, h3⟩ => ?_, ent_of Tryz.func42 (by kernel_rfl) (by kernel_rfl), givB_nb untT_nb, celB_nb untT_nb⟩
  refine ⟨_, _, _, _, _, _, _, _, h1, ⟨jud_stay _ _ _ _ _ _ _, ⟨_, _, rfl, jud3_ends _ _ _ _ _ _ _ _ unt_la⟩, ⟨_, _, rfl, jud2_does tr htr untT _ _ _ _ _ _ _ unt_tk⟩, ⟨_, _, rfl, jud1_does tr htr untT _ _ _ _ _ _ _ unt_tk⟩⟩, h2, fun k hk => by omega, h3⟩
theorem or_mkis (tr : Va → Bool × Int) (htr : TruIs tr) : MkIs 43 (false, true) (givB tr untT) (celB tr untT) (lastB (! ·)) := by
  refine ⟨fun w a len cap => (or_is a len cap w).mono fun e w' ⟨h1, h2, h3⟩ => ?_, ent_of Tryz.func43 (by kernel_rfl) (by kernel_rfl), givB_nb untT_nb, celB_nb untT_nb⟩
  refine ⟨_, _, _, _, _, _, _, _, h1, ⟨jud_stay _ _ _ _ _ _ _, ⟨_, _, rfl, jud3_ends _ _ _ _ _ _ _ _ unt_la⟩, ⟨_, _, rfl, jud2_does tr htr untT _ _ _ _ _ _ _ unt_tk⟩, ⟨_, _, rfl, jud1_does tr htr untT _ _ _ _ _ _ _ unt_tk⟩⟩, h2, fun k hk => by omega, h3⟩
theorem xor_mkis (tr : Va → Bool × Int) (htr : TruIs tr) : MkIs 44 (false, false) (givB tr xorT) (celB tr xorT) (lastB id) := by
  refine ⟨fun w a len cap => (xor_is a len cap w).mono fun e w' ⟨h1, h2, h3⟩ => ?_, ent_of Tryz.func44 (by kernel_rfl) (by kernel_rfl), givB_nb xor_tk.nb, celB_nb xor_tk.nb⟩
  refine ⟨_, _, _, _, _, _, _, _, h1, ⟨jud_stay _ _ _ _ _ _ _, ⟨_, _, rfl, jud3_ends _ _ _ _ _ _ _ _ xor_la⟩, ⟨_, _, rfl, jud2_does tr htr xorT _ _ _ _ _ _ _ xor_tk⟩, ⟨_, _, rfl, jud1_does tr htr xorT _ _ _ _ _ _ _ xor_tk⟩⟩, h2, fun k hk => by omega, h3⟩
end Go.Proofs.YtchphbclaapfhaaGreatDoor
