/- Package fold's goOn: through what is left, up to the next place that is wanted, or to the end; for whatever rule. Proved of the Go text. -/
import Derived.Test.YtnpdkojhlgchlaaGreatDoorWalk15
import Derived.Deep.CutRange
import Derived.Handy
namespace Go.Proofs.YtnpdkojhlgchlaaGreatDoor
open Go.RowKit Go.Sort
open T9 (Blk Chg)
set_option linter.unusedVariables false

theorem slice1 (b o len cap : Nat) (hl : len + 1 ≤ cap) : ∃ a', (∀ w, (Instr.slice 29 (.slice (some ⟨b, o, none⟩) (len + 1) cap) (some (.int .i64 1)) none none).run Tryz.prog w = .ok (.slice a' len (cap - 1)) w) ∧ (0 < len → a' = some ⟨b, o + 8, none⟩) := by
  have hu := Tryz.underlying29
  refine ⟨if cap = 1 then some ⟨b, o, none⟩ else some ⟨b, o + 8, none⟩, fun w => ?_, fun h => if_neg (by omega)⟩
  have h1 : (1 : Int) ≤ (len : Int) + 1 := by omega
  go_simp
theorem chg_then {M M' : Nat → Prop} {w w1 w2 : World} (h : Chg M w w1) (g : Grw M M' w) (h2 : Chg M' w1 w2) : Chg M w w2 :=
  ⟨h2.os.trans h.os, h2.tape.trans h.tape, h2.output.trans h.output, Nat.le_trans h.size h2.size, fun k hk hn => (h2.block k (Nat.lt_of_lt_of_le hk h.size) (fun e => by rcases g k e with h | h; exact hn h; omega)).trans (h.block k hk hn)⟩
theorem many_lt (a : Ag) (hi : a.is = true) (ok : AgOk a) (k : Nat) : (k < a.many ↔ ¬ a.b < a.t + ((k / a.cols : Nat) : Int)) ∧ (a.r - a.l + 1 = (a.cols : Int)) ∧ 1 ≤ (a.cols : Int) ∧ a.cols ≤ 4096 := by
  unfold AgOk at ok
  rw [hi] at ok
  simp only [if_true] at ok
  obtain ⟨⟨h1, h2, h3, h4, h5, h6⟩, h7⟩ := ok
  have hc : a.r - a.l + 1 = (a.cols : Int) := by unfold Ag.cols; omega
  have hp : 0 < a.cols := by omega
  refine ⟨?_, hc, by omega, by omega⟩
  unfold Ag.many
  rw [← Nat.div_lt_iff_lt_mul hp]
  omega
theorem walkOn_any {w : World} {B : Nat} {th gi ce be se la rest : Value} {wt : Bool} {r0 c0 : Int} {bs : Bool} {x0 x1 : Int} {x2 : ByteArray} (k : Nat) (h : Blk w B (fC th gi ce be se la rest (k : Int) wt r0 c0 bs x0 x1 x2) 79) (a : Ag) (hi : a.is = true) (ok : AgOk a) (hk : k ≤ 4096) :
    Calls Tryz.prog 63 #[.pointer (some ⟨B, 0, none⟩), .agg #[.int .i64 a.t, .int .i64 a.l, .int .i64 a.b, .int .i64 a.r]] w fun e w' => e = .returned (.bool (decide (k < a.many))) ∧ (k < a.many → Blk w' B (fC th gi ce be se la rest ((k : Int) + 1) true (a.t + (k / a.cols : Nat)) (a.l + (k % a.cols : Nat)) false x0 x1 x2) 79) ∧ (¬ k < a.many → Blk w' B (fC th gi ce be se la rest (k : Int) wt r0 c0 bs x0 x1 x2) 79) ∧ Chg (· = B) w w' := by
  obtain ⟨m1, m2, m3, m4⟩ := many_lt a hi ok k
  have ok' := ok
  unfold AgOk at ok'
  rw [hi] at ok'
  simp only [if_true] at ok'
  obtain ⟨⟨h1, h2, h3, h4, h5, h6⟩, h7⟩ := ok'
  have HC := columns_is a.t a.l a.b a.r h4 h5 h6
  rw [m2] at HC
  have hx : k / a.cols ≤ k := Nat.div_le_self _ _
  have hy : k % a.cols ≤ k := Nat.mod_le _ _
  have q1 : Int.tdiv (k : Int) (a.cols : Int) = ((k / a.cols : Nat) : Int) := rfl
  have q2 : Int.tmod (k : Int) (a.cols : Int) = ((k % a.cols : Nat) : Int) := rfl
  generalize k / a.cols = x at *
  generalize k % a.cols = y at *
  by_cases hlt : k < a.many
  · refine (walkOn_yes (k : Int) h a.t a.l a.b a.r (a.cols : Int) (x : Int) (y : Int) HC m3 q1 q2 (by omega) (by omega) (by omega) (by omega) (by omega) (by omega) h1 (by omega) h4 (by omega) (m1.1 hlt)).mono fun e w' ⟨g1, g2, g3⟩ => ⟨by rw [g1, decide_eq_true hlt], fun _ => g2, fun hn => absurd hlt hn, g3⟩
  · refine (walkOn_no (k : Int) h a.t a.l a.b a.r (a.cols : Int) (x : Int) (y : Int) HC m3 q1 q2 (by omega) (by omega) (by omega) (by omega) (by omega) (by omega) h1 (by omega) h4 (by omega) (Classical.byContradiction fun hc => hlt (m1.2 hc))).mono fun e w' ⟨g1, g2, g3⟩ => ⟨by rw [g1, decide_eq_false hlt], fun hn => absurd hn hlt, fun _ => g2, g3⟩
end Go.Proofs.YtnpdkojhlgchlaaGreatDoor
