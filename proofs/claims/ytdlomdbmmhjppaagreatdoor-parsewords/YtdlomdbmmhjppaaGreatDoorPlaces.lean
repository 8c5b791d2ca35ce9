/- What package spot's functions on places and references answer, for every place, reference and number: which places there are, a column's letters, a reference's text, an area between corners, the row order. Proved of the Go text, given that strconv's table of powers is as its text lays it. -/
import Derived.Test.YtdlomdbmmhjppaaGreatDoorLeJ
import Derived.Test.YtdlomdbmmhjppaaGreatDoorShelf
import Derived.Deep.RegionWith
import Derived.Lib.QuietBelow
import Derived.BigQuiet
import Derived.Below
import Derived.Handy
namespace Go.Proofs.YtdlomdbmmhjppaaGreatDoor
open Go.RowKit Go.Sort
set_option linter.unusedVariables false

/-- The table is as strconv's text lays it. -/
def Tab (w : World) : Prop := Lib.TabIs Tryz.prog w "internal/strconv.uint64pow10" .u64 Lib.pow10Tab
theorem gTab : Tryz.prog.globalNamed "internal/strconv.uint64pow10" = some 6 := by kernel_rfl
theorem tab_size {w : World} (h : Tab w) : 6 < w.heap.size := by
  unfold Tab Lib.TabIs World.var? at h
  simp only [gTab, Option.bind_some] at h
  by_cases hs : 6 < w.heap.size
  · exact hs
  · rw [Array.getElem?_eq_none (by omega)] at h
    simp at h
theorem tab_below {w w' : World} (h : Tab w) (hb : Below w.heap.size w w') : Tab w' := var?_below hb gTab (tab_size h) h
theorem below_grows (w : World) (k : Nat) (os : Array Obj) : Below w.heap.size w (Sort.grow (w.drewN k) os) :=
  ⟨rfl, rfl, rfl, by show w.heap.size ≤ (w.heap ++ os).size; rw [Array.size_append]; omega, fun i hi => by show (w.heap ++ os)[i]? = _; rw [Array.getElem?_append, if_pos hi]⟩

theorem bcell {W w1 : World} (hb : Below W.heap.size W w1) : (∀ b o, b < W.heap.size → w1.cell? ⟨b, o, none⟩ = W.cell? ⟨b, o, none⟩) ∧ (∀ b o, b < W.heap.size → w1.frozen? ⟨b, o, none⟩ = W.frozen? ⟨b, o, none⟩) :=
  ⟨fun b o h => hb.cell (p := ⟨b, o, none⟩) h, fun b o h => hb.frozen (p := ⟨b, o, none⟩) h⟩
theorem next {a w w' : World} (h : Below a.heap.size a w) (hb : Below w.heap.size w w') : Below a.heap.size a w' := h.trans (hb.mono h.size)
theorem step {a w : World} (h : Below a.heap.size a w) (o : Obj) : Below a.heap.size a (w.alloc o) := h.alloc h.size o
/-- What a block's first cells hold. -/
def C2 (w : World) (b : Nat) (v0 v1 : Value) : Prop := w.cell? ⟨b, 0, none⟩ = some v0 ∧ w.cell? ⟨b, 1, none⟩ = some v1
def C4 (w : World) (b : Nat) (v0 v1 v2 v3 : Value) : Prop := w.cell? ⟨b, 0, none⟩ = some v0 ∧ w.cell? ⟨b, 1, none⟩ = some v1 ∧ w.cell? ⟨b, 2, none⟩ = some v2 ∧ w.cell? ⟨b, 3, none⟩ = some v3
theorem keep1 {W w1 : World} {b o : Nat} {v : Value} (hb : Below W.heap.size W w1) (h : W.cell? ⟨b, o, none⟩ = some v) : w1.cell? ⟨b, o, none⟩ = some v := by
  rw [hb.cell (p := ⟨b, o, none⟩) (block_lt_of_cell h)]; exact h
theorem C2.keep {W w1 : World} {b : Nat} {v0 v1 : Value} (h : C2 W b v0 v1) (hb : Below W.heap.size W w1) : C2 w1 b v0 v1 := ⟨keep1 hb h.1, keep1 hb h.2⟩
theorem C4.keep {W w1 : World} {b : Nat} {v0 v1 v2 v3 : Value} (h : C4 W b v0 v1 v2 v3) (hb : Below W.heap.size W w1) : C4 w1 b v0 v1 v2 v3 := ⟨keep1 hb h.1, keep1 hb h.2.1, keep1 hb h.2.2.1, keep1 hb h.2.2.2⟩
theorem C2.alloc {W : World} {b : Nat} {v0 v1 : Value} (h : C2 W b v0 v1) (o : Obj) : C2 (W.alloc o) b v0 v1 := h.keep ((Below.refl _ _).alloc (Nat.le_refl _) _)
theorem C4.alloc {W : World} {b : Nat} {v0 v1 v2 v3 : Value} (h : C4 W b v0 v1 v2 v3) (o : Obj) : C4 (W.alloc o) b v0 v1 v2 v3 := h.keep ((Below.refl _ _).alloc (Nat.le_refl _) _)
theorem C2.new (W : World) (v0 v1 : Value) (t : TypeId) : C2 (W.alloc (.cells #[v0, v1] t)) W.heap.size v0 v1 := by constructor <;> go_simp
theorem C4.new (W : World) (v0 v1 v2 v3 : Value) (t : TypeId) : C4 (W.alloc (.cells #[v0, v1, v2, v3] t)) W.heap.size v0 v1 v2 v3 := by refine ⟨?_, ?_, ?_, ?_⟩ <;> go_simp
theorem C2.any {W : World} {b : Nat} {v0 v1 : Value} (h : C2 W b v0 v1) : (∀ o, (W.alloc o).cell? ⟨b, 0, none⟩ = some v0) ∧ (∀ o, (W.alloc o).cell? ⟨b, 1, none⟩ = some v1) := ⟨fun o => (h.alloc o).1, fun o => (h.alloc o).2⟩
theorem C4.any {W : World} {b : Nat} {v0 v1 v2 v3 : Value} (h : C4 W b v0 v1 v2 v3) : (∀ o, (W.alloc o).cell? ⟨b, 0, none⟩ = some v0) ∧ (∀ o, (W.alloc o).cell? ⟨b, 1, none⟩ = some v1) ∧ (∀ o, (W.alloc o).cell? ⟨b, 2, none⟩ = some v2) ∧ (∀ o, (W.alloc o).cell? ⟨b, 3, none⟩ = some v3) := ⟨fun o => (h.alloc o).1, fun o => (h.alloc o).2.1, fun o => (h.alloc o).2.2.1, fun o => (h.alloc o).2.2.2⟩
abbrev spotV (r c : Int) : Value := .agg #[.int .i64 r, .int .i64 c]
abbrev refV (r c : Int) (p q : Bool) : Value := .agg #[.int .i64 r, .int .i64 c, .bool p, .bool q]
abbrev areaV (t l b r : Int) : Value := .agg #[.int .i64 t, .int .i64 l, .int .i64 b, .int .i64 r]
abbrev spotO (r c : Int) : Obj := .cells #[.int .i64 r, .int .i64 c] 98
abbrev refO (r c : Int) (p q : Bool) : Obj := .cells #[.int .i64 r, .int .i64 c, .bool p, .bool q] 27
def mayB (r c : Int) : Bool := decide (0 ≤ r ∧ r < 65536 ∧ 0 ≤ c ∧ c < 702)

theorem may_any (r c : Int) (w : World) : Calls Tryz.prog 56 #[spotV r c] w fun e w' => e = .returned (.bool (mayB r c)) ∧ w' = w.alloc (spotO r c) := by
  by_cases h1 : 0 ≤ r
  · by_cases h2 : r < 65536
    · by_cases h3 : 0 ≤ c
      · by_cases h4 : c < 702
        · go_enter Tryz.func56, Tryz.ntmps56
          go_wp2
          go_ret
          exact ⟨ret_bool (by simp [mayB]; omega), rfl⟩
        · go_enter Tryz.func56, Tryz.ntmps56
          go_wp2
          go_ret
          exact ⟨ret_bool (by simp [mayB]; omega), rfl⟩
      · go_enter Tryz.func56, Tryz.ntmps56
        go_wp2
        go_ret
        exact ⟨ret_bool (by simp [mayB]; omega), rfl⟩
    · go_enter Tryz.func56, Tryz.ntmps56
      go_wp2
      go_ret
      exact ⟨ret_bool (by simp [mayB]; omega), rfl⟩
  · go_enter Tryz.func56, Tryz.ntmps56
    go_wp2
    go_ret
    exact ⟨ret_bool (by simp [mayB]; omega), rfl⟩

def pinB (p : Bool) : ByteArray := if p then ⟨#[36]⟩ else ⟨#[]⟩
theorem pin_any (p : Bool) (w : World) : Calls Tryz.prog 149 #[.bool p] w fun e w' => e = .returned (.string (pinB p)) ∧ w' = w := by
  cases p
  all_goals
    go_enter Tryz.func149, Tryz.ntmps149
    go_wp2
    go_ret
    exact ⟨rfl, rfl⟩

def b1 (c : Int) : ByteArray := ⟨#[UInt8.ofNat c.toNat]⟩
def b2 (c d : Int) : ByteArray := ⟨#[UInt8.ofNat c.toNat, UInt8.ofNat d.toNat]⟩
def letB (n : Nat) : ByteArray := if n < 26 then b1 (65 + n % 26) else b2 (65 + n / 26 - 1) (65 + n % 26)
theorem run1 (w : World) (c : Int) : (convert 38 9 (.slice (some ⟨w.heap.size, 0, none⟩) 1 1)).run Tryz.prog (w.alloc (.cells #[.int .u8 c] 5)) = .ok (.string (b1 c)) (w.alloc (.cells #[.int .u8 c] 5)) := by
  rw [run_convert_bytes_string _ 38 9 5 _ _ _ Tryz.underlying38 Tryz.underlying5 Tryz.underlying9]
  rw [run_bytesToString _ _ _ _ [c] (by go_simp)]
  rfl
theorem run2 (w : World) (c d : Int) : (convert 38 9 (.slice (some ⟨w.heap.size, 0, none⟩) 2 2)).run Tryz.prog (w.alloc (.cells #[.int .u8 c, .int .u8 d] 5)) = .ok (.string (b2 c d)) (w.alloc (.cells #[.int .u8 c, .int .u8 d] 5)) := by
  rw [run_convert_bytes_string _ 38 9 5 _ _ _ Tryz.underlying38 Tryz.underlying5 Tryz.underlying9]
  rw [run_bytesToString _ _ _ _ [c, d] (by go_simp)]
  rfl
theorem letters_any (n : Nat) (w : World) (h : n < 702) :
    Calls Tryz.prog 150 #[.int .i64 n] w fun e w' => e = .returned (.string (letB n)) ∧ Below w.heap.size w w' := by
  by_cases h1 : n < 26
  · have HB : Hid (letB n = b1 (65 + n % 26)) := if_pos h1
    have hcv := run1
    have h1' : (n : Int) < 26 := by omega
    go_enter Tryz.func150, Tryz.ntmps150
    go_wp2
    go_ret
    exact ⟨by rw [HB.out]; rfl, (Below.refl _ _).alloc (Nat.le_refl _) _⟩
  · have HB : Hid (letB n = b2 (65 + n / 26 - 1) (65 + n % 26)) := if_neg h1
    have hcv := run2
    have h1' : ¬ (n : Int) < 26 := by omega
    go_enter Tryz.func150, Tryz.ntmps150
    go_wp2
    go_ret
    exact ⟨by rw [HB.out]; rfl, (Below.refl _ _).alloc (Nat.le_refl _) _⟩

def refB (r c : Nat) (p q : Bool) : ByteArray := ((pinB q ++ letB c) ++ pinB p) ++ numeral (r + 1)
set_option maxHeartbeats 400000 in
theorem refText_no (r c : Int) (p q : Bool) (w : World) (h : mayB r c = false) :
    Calls Tryz.prog 129 #[refV r c p q] w fun e w' => e = .returned (.tuple #[.string ⟨#[]⟩, .int .i64 10]) ∧ Below w.heap.size w w' := by
  go_enter Tryz.func129, Tryz.ntmps129
  go_wp2_with (go_at_call 56; refine (may_any _ _ _).mono ?_; rintro e w' ⟨rfl, rfl⟩)
  go_ret2
  exact ⟨rfl, ((Below.refl _ _).alloc (Nat.le_refl _) _).alloc (by simp) _⟩

abbrev W2 (w : World) (r c : Int) (p q : Bool) : World := (w.alloc (refO r c p q)).alloc (spotO r c)
theorem cellsW2 (w : World) (r c : Int) (p q : Bool) :
    (∀ d os, (grow (redrawn (W2 w r c p q) d) os).cell? ⟨w.heap.size, 0, none⟩ = some (.int .i64 r)) ∧ (∀ d os, (grow (redrawn (W2 w r c p q) d) os).cell? ⟨w.heap.size, 1, none⟩ = some (.int .i64 c)) ∧
    (∀ d os, (grow (redrawn (W2 w r c p q) d) os).cell? ⟨w.heap.size, 2, none⟩ = some (.bool p)) ∧ (∀ d os, (grow (redrawn (W2 w r c p q) d) os).cell? ⟨w.heap.size, 3, none⟩ = some (.bool q)) := by
  refine ⟨cell_regrown ?_, cell_regrown ?_, cell_regrown ?_, cell_regrown ?_⟩ <;> go_simp
theorem below_W2 (w : World) (r c : Int) (p q : Bool) : Below w.heap.size w (W2 w r c p q) := ((Below.refl _ _).alloc (Nat.le_refl _) _).alloc (by simp) _
theorem pin_below (p : Bool) (w : World) : Calls Tryz.prog 149 #[.bool p] w fun e w' => e = .returned (.string (pinB p)) ∧ Below w.heap.size w w' :=
  (pin_any p w).mono fun e w' ⟨h, h'⟩ => ⟨h, h' ▸ Below.refl _ _⟩
theorem itoa_below (n : Int) (w : World) (h0 : -9223372036854775808 ≤ n) (h1 : n ≤ 9223372036854775807) (ht : Tab w) :
    Calls Tryz.prog 151 #[.int .i64 n] w fun e w' => e = .returned (.string (numeral n)) ∧ Below w.heap.size w w' :=
  (Tryz.strconv_Itoa n h0 h1 w ht).mono fun e w' ⟨h, k, os, h'⟩ => ⟨h, h' ▸ below_grows w k os⟩
theorem pinB_size (p : Bool) : (pinB p).size ≤ 1 := by cases p <;> decide
theorem letB_size (n : Nat) : (letB n).size ≤ 2 := by
  unfold letB
  split
  · show 1 ≤ 2; decide
  · show 2 ≤ 2; decide
theorem add_run {a b : ByteArray} (h : a.size + b.size ≤ 9223372036854775807) (w : World) : (Op.stringOp .add a b).run Tryz.prog w = .ok (.string (a ++ b)) w := run_string_add_sum w a b h
set_option maxHeartbeats 1000000 in
set_option maxRecDepth 100000 in
theorem refText_yes (r c : Nat) (p q : Bool) (w : World) (h1 : r < 65536) (h2 : c < 702) (ht : Tab w) :
    Calls Tryz.prog 129 #[refV r c p q] w fun e w' => e = .returned (.tuple #[.string (refB r c p q), .int .i64 0]) ∧ Below w.heap.size w w' := by
  have hm : mayB r c = true := by simp [mayB]; omega
  obtain ⟨k0, k1, k2, k3⟩ := cellsW2 w r c p q
  have cP := fun d os => Calls.regrown_of (pin_below p (grow (redrawn (W2 w r c p q) d) os))
  have cQ := fun d os => Calls.regrown_of (pin_below q (grow (redrawn (W2 w r c p q) d) os))
  have cL := fun d os => Calls.regrown_of (letters_any c (grow (redrawn (W2 w r c p q) d) os) h2)
  have cI := fun d os => Calls.regrown_of (itoa_below (r + 1) (grow (redrawn (W2 w r c p q) d) os) (by omega) (by omega) (tab_below ht ((below_W2 w r c p q).trans ((below_regrown _ d os).mono (by simp; omega)))))
  clear ht
  have z1 := pinB_size p
  have z2 := pinB_size q
  have z3 := letB_size c
  have z4 := (numeral_len (r + 1) (by omega) (by omega)).2
  have s1 := fun w => add_run (a := pinB q) (b := letB c) (by omega) w
  have s2 := fun w => add_run (a := pinB q ++ letB c) (b := pinB p) (by rw [ByteArray.size_append]; omega) w
  have s3 := fun w => add_run (a := (pinB q ++ letB c) ++ pinB p) (b := numeral (r + 1)) (by rw [ByteArray.size_append, ByteArray.size_append]; omega) w
  clear z1 z2 z3 z4
  go_enter Tryz.func129, Tryz.ntmps129
  go_wp2_with (go_at_call 56; refine (may_any _ _ _).mono ?_; rintro e w' ⟨rfl, rfl⟩)
  refine wp_region_quiet_below (by kernel_rfl) (by kernel_rfl) ?_
  repeat (go_big_quiet_step (first | (with_reducible exact cP _ _) | (with_reducible exact cQ _ _) | (with_reducible exact cL _ _) | (with_reducible exact cI _ _)))
  refine wpQuiet_nil ?_
  intro _ hw'
  obtain ⟨⟨dq, osq⟩, hw''⟩ := hw'
  subst hw''
  go_wp2
  go_ret2
  exact ⟨rfl, (below_W2 w r c p q).trans ((below_regrown _ dq osq).mono (by simp; omega))⟩
end Go.Proofs.YtdlomdbmmhjppaaGreatDoor
