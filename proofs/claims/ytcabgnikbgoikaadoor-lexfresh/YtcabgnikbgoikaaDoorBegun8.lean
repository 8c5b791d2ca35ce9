/- Eq and begun: what every statement of the stage asks. Proved of the Go text. -/
import Derived.Test.YtcabgnikbgoikaaDoorCut8
namespace Go.Proofs.YtcabgnikbgoikaaDoor
open Go.RowKit Go.Sort
set_option linter.unusedVariables false

/-- The cells of the word at j. -/
def WdAt (w : World) (g j : Nat) (x : Wd) : Prop := w.cell? ⟨g, j * 3, none⟩ = some (.int .i64 x.kind) ∧ w.cell? ⟨g, j * 3 + 1, none⟩ = some (.string (ba x.text)) ∧ w.cell? ⟨g, j * 3 + 2, none⟩ = some (.int .i64 x.at')
theorem WdAt.keep {w w' : World} {g j : Nat} {x : Wd} (h : WdAt w g j x) (hb : Below w.heap.size w w') : WdAt w' g j x := ⟨keep1 hb h.1, keep1 hb h.2.1, keep1 hb h.2.2⟩
/-- A slice of words: empty, or with its cells. -/
def WordsIn (w : World) (a : Option Addr) (l : List Wd) : Prop := l.length ≤ 1000000 ∧ (l = [] ∨ ∃ g, a = some ⟨g, 0, none⟩ ∧ ∀ j (h : j < l.length), WdAt w g j l[j])
theorem WordsIn.keep {w w' : World} {a : Option Addr} {l : List Wd} (h : WordsIn w a l) (hb : Below w.heap.size w w') : WordsIn w' a l := ⟨h.1, by
  rcases h.2 with h | ⟨g, e, h⟩
  · exact .inl h
  · exact .inr ⟨g, e, fun j hj => (h j hj).keep hb⟩⟩
theorem row_words {w : World} {B : Nat} {v : Value} {l : List Wd} (h : RowW w B v l) (hl : l.length ≤ 1000000) : ∃ a c, v = .slice a l.length c ∧ WordsIn w a l := by
  obtain ⟨a, c, rfl⟩ := row_slice h
  refine ⟨a, c, rfl, hl, ?_⟩
  by_cases h0 : l = []
  · exact .inl h0
  right
  rcases h.2 with ⟨e, hn⟩ | ⟨g, cap, cur, e, _⟩
  · exact absurd (List.eq_nil_of_length_eq_zero hn) h0
  · have : a = some ⟨g, 0, none⟩ := by cases e; rfl
    subst this
    refine ⟨g, rfl, fun j hj => ?_⟩
    have ha : ∀ k, (⟨g, 0, none⟩ : Addr).add k = ⟨g, k, none⟩ := fun k => by unfold Addr.add; split <;> simp_all
    obtain ⟨f1, f2, f3⟩ := flatW_get l j hj
    have c1 := World.ownsRow.cells h (g := g) rfl _ _ f1
    have c2 := World.ownsRow.cells h (g := g) rfl _ _ f2
    have c3 := World.ownsRow.cells h (g := g) rfl _ _ f3
    rw [ha] at c1 c2 c3
    exact ⟨c1, c2, c3⟩
set_option maxRecDepth 100000 in
set_option maxHeartbeats 4000000 in
theorem eq_same {w : World} {a a' : Option Addr} {l : List Wd} (c c' : Nat) (h : WordsIn w a l) (h' : WordsIn w a' l) : Calls Tryd.prog 7 #[.slice a l.length c, .slice a' l.length c'] w fun e w' => e = .returned (.bool true) ∧ Below w.heap.size w w' := by
  have hl := h.1
  replace h := hide h
  replace h' := hide h'
  go_enter Tryd.func7, Tryd.ntmps7
  go_wp2_with fail
  go_loopw [5] (fun i wr => ∃ k : Nat, k ≤ l.length ∧ i = .int .i64 k ∧ Hid (Below w.heap.size w wr)) (fun i _ => l.length - (intOf i).toNat)
  case atStart => exact ⟨0, Nat.zero_le _, rfl, hide (Below.refl _ _)⟩
  case round =>
    obtain ⟨k, hk, rfl, hB⟩ := hrel
    by_cases hlt : k < l.length
    · have hki : (k : Int) < l.length := by omega
      have hne : l ≠ [] := by rintro rfl; simp at hlt
      obtain ⟨g, rfl, hg⟩ := h.out.2.resolve_left hne
      obtain ⟨g', rfl, hg'⟩ := h'.out.2.resolve_left hne
      obtain ⟨x0, x1, x2⟩ := (hg k hlt).keep hB.out
      obtain ⟨y0, y1, y2⟩ := (hg' k hlt).keep hB.out
      generalize l[k] = x at *
      obtain ⟨xk, xt, xi⟩ := x
      simp only at x0 x1 x2 y0 y1 y2
      have p0 := cell_regrown x0
      have p1 := cell_regrown x1
      have p2 := cell_regrown x2
      have q0 := cell_regrown y0
      have q1 := cell_regrown y1
      have q2 := cell_regrown y2
      clear hg hg'
      go_wp2_with fail
      go_quiet (fail)
      go_wp2_with fail
      go_roundw
      case rel => exact ⟨k + 1, by omega, by go_num, hide (below_dn hB.out _)⟩
      case measure => simp [intOf]; omega
    · have hki : ¬ (k : Int) < l.length := by omega
      go_wp2_with fail
      go_ret
      exact ⟨rfl, hB.out⟩
theorem cut_b1 : cutR ⟨#[116, 114, 117, 101, 32, 60, 62, 35, 78, 47, 65]⟩ = .ok [⟨5, [84, 82, 85, 69], 0⟩, ⟨7, [60, 62], 5⟩, ⟨6, [35, 78, 47, 65], 7⟩] := by kernel_rfl
theorem cut_b2 : cutR ⟨#[50, 46, 53]⟩ = .bad 1 21 := by kernel_rfl
theorem cut_b3 : cutR ⟨#[57, 50, 50, 51, 51, 55, 50, 48, 51, 54, 56, 53, 52, 55, 55, 53, 56, 48, 56]⟩ = .bad 0 12 := by kernel_rfl
set_option maxRecDepth 100000 in
set_option maxHeartbeats 4000000 in
theorem begun8 : CallL 4 #[] (.bool true) := by
  intro w hl
  have H1 := hide (cut8 ⟨#[116, 114, 117, 101, 32, 60, 62, 35, 78, 47, 65]⟩ w hl (by decide))
  have H2 := hide (fun w hl => cut8 ⟨#[50, 46, 53]⟩ w hl (by decide))
  have H3 := hide (fun w hl => cut8 ⟨#[57, 50, 50, 51, 51, 55, 50, 48, 51, 54, 56, 53, 52, 55, 55, 53, 56, 48, 56]⟩ w hl (by decide))
  rw [cut_b1] at H1
  rw [cut_b2] at H2
  rw [cut_b3] at H3
  replace hl := hide hl
  go_enter Tryd.func4, Tryd.ntmps4
  go_wp2_with fail
  refine H1.out.mono ?_
  rintro e w1 ⟨hb1, v, rfl, hrow⟩
  replace hb1 := hide hb1
  replace hrow := hide hrow
  go_wp2_with fail
  refine (H2.out _ (hl.out.keep hb1.out)).mono ?_
  rintro e w2 ⟨hb2, rfl⟩
  have hB2 := hide (next hb1.out hb2)
  have hrow2 := row_keep hrow.out hb2
  go_wp2_with fail
  refine (H3.out _ (hl.out.keep hB2.out)).mono ?_
  rintro e w3 ⟨hb3, rfl⟩
  have hB3 := hide (next hB2.out hb3)
  obtain ⟨av, cv, rfl, hW⟩ := row_words (row_keep hrow2 hb3) (by decide)
  have hW4 := hide (hW.keep (step (Below.refl _ _) (.cells #[.int .i64 5, .string ⟨#[84, 82, 85, 69]⟩, .int .i64 0, .int .i64 7, .string ⟨#[60, 62]⟩, .int .i64 5, .int .i64 6, .string ⟨#[35, 78, 47, 65]⟩, .int .i64 7] 32)))
  have hV4 : Hid (WordsIn (w3.alloc (.cells #[.int .i64 5, .string ⟨#[84, 82, 85, 69]⟩, .int .i64 0, .int .i64 7, .string ⟨#[60, 62]⟩, .int .i64 5, .int .i64 6, .string ⟨#[35, 78, 47, 65]⟩, .int .i64 7] 32)) (some ⟨w3.heap.size, 0, none⟩) [⟨5, [84, 82, 85, 69], 0⟩, ⟨7, [60, 62], 5⟩, ⟨6, [35, 78, 47, 65], 7⟩]) := hide ⟨by decide, .inr ⟨_, rfl, fun j hj => by
    have hbl := Blk.new w3 #[.int .i64 5, .string ⟨#[84, 82, 85, 69]⟩, .int .i64 0, .int .i64 7, .string ⟨#[60, 62]⟩, .int .i64 5, .int .i64 6, .string ⟨#[35, 78, 47, 65]⟩, .int .i64 7] 32
    have hj' : j = 0 ∨ j = 1 ∨ j = 2 := by have : j < 3 := hj; omega
    rcases hj' with rfl | rfl | rfl
    · exact ⟨hbl.at' 0, hbl.at' 1, hbl.at' 2⟩
    · exact ⟨hbl.at' 3, hbl.at' 4, hbl.at' 5⟩
    · exact ⟨hbl.at' 6, hbl.at' 7, hbl.at' 8⟩⟩⟩
  have HE := hide (fun c' => eq_same cv c' hW4.out hV4.out)
  clear hW hW4 hV4 hb1 hb2 hb3
  go_wp2_with fail
  refine (HE.out _).mono ?_
  rintro e w5 ⟨rfl, hb5⟩
  go_wp2_with fail
  go_ret
  exact ⟨rfl, next (step hB3.out _) hb5⟩
end Go.Proofs.YtcabgnikbgoikaaDoor
