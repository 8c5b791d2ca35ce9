/- A paste and another one; no Go in sight. -/
import Derived.Test.YtmgmlpbecodnfaaShM12
namespace Go.Proofs.Ytmgmlpbecodnfaa
open Go.RowKit
set_option linter.unusedVariables false

theorem stp_stp {x a c N : Int} (hN : N ≤ 65536) (h0 : 0 ≤ x) (h1 : x < N) (g0 : 0 ≤ stp x a) (g1 : stp x a < N) : ((0 ≤ stp (stp x a) c ∧ stp (stp x a) c < N) ↔ (0 ≤ stp x (a + c) ∧ stp x (a + c) < N)) ∧ (0 ≤ stp x (a + c) → stp x (a + c) < N → stp (stp x a) c = stp x (a + c)) := by
  unfold stp at *
  omega
theorem pas_one {a b c d : Int} (r p : Rf) (hr : mayB r.row r.col = true) (hf : mayB (pasR a b r p).row (pasR a b r p).col = true) :
    (mayB (pasR c d (pasR a b r p) (pasR a b p r)).row (pasR c d (pasR a b r p) (pasR a b p r)).col = mayB (pasR (a + c) (b + d) r p).row (pasR (a + c) (b + d) r p).col) ∧ (mayB (pasR (a + c) (b + d) r p).row (pasR (a + c) (b + d) r p).col = true → pasR c d (pasR a b r p) (pasR a b p r) = pasR (a + c) (b + d) r p) := by
  obtain ⟨row, col, pr, pc⟩ := r
  have hr := mayB_iff.1 hr
  have hf := mayB_iff.1 hf
  have s1 := fun (h : pr = false) => stp_stp (x := row) (a := a) (c := c) (N := 65536) (by omega) hr.1 hr.2.1 (by have := hf.1; rw [h] at this; simpa [pasR] using this) (by have := hf.2.1; rw [h] at this; simpa [pasR] using this)
  have s2 := fun (h : pc = false) => stp_stp (x := col) (a := b) (c := d) (N := 702) (by omega) hr.2.2.1 hr.2.2.2 (by have := hf.2.2.1; rw [h] at this; simpa [pasR] using this) (by have := hf.2.2.2; rw [h] at this; simpa [pasR] using this)
  simp only [pasR] at hf ⊢
  refine ⟨?_, fun h => ?_⟩
  · rw [Bool.eq_iff_iff, mayB_iff, mayB_iff]
    cases pr <;> cases pc
    · have t1 := (s1 rfl).1; have t2 := (s2 rfl).1; simp only [Bool.false_eq_true, if_false]; omega
    · have t1 := (s1 rfl).1; simp only [Bool.false_eq_true, if_false, if_true]; omega
    · have t2 := (s2 rfl).1; simp only [Bool.false_eq_true, if_false, if_true]; omega
    · simp only [if_true]
  · have h := mayB_iff.1 h
    cases pr <;> cases pc
    · simp only [Bool.false_eq_true, if_false] at h ⊢; rw [(s1 rfl).2 h.1 h.2.1, (s2 rfl).2 h.2.2.1 h.2.2.2]
    · simp only [Bool.false_eq_true, if_false, if_true] at h ⊢; rw [(s1 rfl).2 h.1 h.2.1]
    · simp only [Bool.false_eq_true, if_false, if_true] at h ⊢; rw [(s2 rfl).2 h.2.2.1 h.2.2.2]
    · simp only [if_true]
theorem pas_pas {a b c d : Int} {t : Ex} (ha : allE t = true) (hk : kpE (pasR a b) t) : movE (pasR c d) (movE (pasR a b) t) = movE (pasR (a + c) (b + d)) t :=
  mov_mov _ _ _ (movN_movN (fun r p hr hp hf _ => pas_one r p hr hf)) t ha hk
theorem pas_zero : pasR 0 0 = idR := by
  funext r p
  obtain ⟨row, col, pr, pc⟩ := r
  have e : ∀ x, stp x 0 = x := fun x => by unfold stp; omega
  simp [pasR, e]
theorem pas_back {a b : Int} {t : Ex} (ha : allE t = true) (hk : kpE (pasR a b) t) : movE (pasR (-a) (-b)) (movE (pasR a b) t) = t := by
  rw [pas_pas ha hk, show a + -a = 0 by omega, show b + -b = 0 by omega, pas_zero, mov_id ha]
end Go.Proofs.Ytmgmlpbecodnfaa
