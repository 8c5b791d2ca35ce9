/- quadrilleref9.Eq: the document's own comparison of two trees. -/
import Derived.Test.YtiajoppbgebnpaaKit9b
namespace Go.Proofs.Ytiajoppbgebnpaa
open Go.RowKit Go.Sort
set_option linter.unusedVariables false

theorem sameE_no {n1 n2 : Nd} {ks ls : List Ex} (h : ndB n1 n2 = false ∨ ks.length ≠ ls.length) : sameE (.mk n1 ks) (.mk n2 ls) = false := by
  rw [sameE]
  rcases h with h | h
  · show (ndB n1 n2 && _) = false; rw [h]; rfl
  · show (_ && sameL ks ls) = false; rw [sameL_len _ _ h, Bool.and_false]
theorem range14 {w : World} {b o : Nat} {n : Nd} {s : Value} (h : w.rangeAt b o (exC n s).toList) :
    w.cell? ⟨b, o, none⟩ = some (.int .i64 n.kind) ∧ w.cell? ⟨b, o + 1, none⟩ = some (.int .i64 n.op) ∧ w.cell? ⟨b, o + 2, none⟩ = some (.int .i64 n.num) ∧ w.cell? ⟨b, o + 3, none⟩ = some (.string n.text) ∧ w.cell? ⟨b, o + 4, none⟩ = some (.int .i64 n.ref.row) ∧ w.cell? ⟨b, o + 5, none⟩ = some (.int .i64 n.ref.col) ∧ w.cell? ⟨b, o + 6, none⟩ = some (.bool n.ref.pr) ∧ w.cell? ⟨b, o + 7, none⟩ = some (.bool n.ref.pc) ∧
    w.cell? ⟨b, o + 8, none⟩ = some (.int .i64 n.to.row) ∧ w.cell? ⟨b, o + 9, none⟩ = some (.int .i64 n.to.col) ∧ w.cell? ⟨b, o + 10, none⟩ = some (.bool n.to.pr) ∧ w.cell? ⟨b, o + 11, none⟩ = some (.bool n.to.pc) ∧ w.cell? ⟨b, o + 12, none⟩ = some (.int .i64 n.fn) ∧ w.cell? ⟨b, o + 13, none⟩ = some s :=
  ⟨h 0 _ rfl, h 1 _ rfl, h 2 _ rfl, h 3 _ rfl, h 4 _ rfl, h 5 _ rfl, h 6 _ rfl, h 7 _ rfl, h 8 _ rfl, h 9 _ rfl, h 10 _ rfl, h 11 _ rfl, h 12 _ rfl, h 13 _ rfl⟩
abbrev lit14 (n : Nd) (s : Value) : Value := .agg #[.int .i64 n.kind, .int .i64 n.op, .int .i64 n.num, .string n.text, .int .i64 n.ref.row, .int .i64 n.ref.col, .bool n.ref.pr, .bool n.ref.pc, .int .i64 n.to.row, .int .i64 n.to.col, .bool n.to.pr, .bool n.to.pc, .int .i64 n.fn, s]
theorem nd_eq {n1 n2 : Nd} (h0 : n1.kind = n2.kind) (h1 : n1.op = n2.op) (h2 : n1.num = n2.num) (h3 : n1.text = n2.text) (h4 : n1.ref.row = n2.ref.row) (h5 : n1.ref.col = n2.ref.col) (h6 : n1.ref.pr = n2.ref.pr) (h7 : n1.ref.pc = n2.ref.pc) (h8 : n1.to.row = n2.to.row) (h9 : n1.to.col = n2.to.col) (h10 : n1.to.pr = n2.to.pr) (h11 : n1.to.pc = n2.to.pc) (h12 : n1.fn = n2.fn) : n1 = n2 := by
  obtain ⟨k, o, n, t, ⟨a, b, c, d⟩, ⟨e, f, g, h⟩, i⟩ := n1
  obtain ⟨k', o', n', t', ⟨a', b', c', d'⟩, ⟨e', f', g', h'⟩, i'⟩ := n2
  simp only at h0 h1 h2 h3 h4 h5 h6 h7 h8 h9 h10 h11 h12
  subst h0 h1 h2 h3 h4 h5 h6 h7 h8 h9 h10 h11 h12
  rfl
theorem ndB_self (n : Nd) : ndB n n = true := by simp [ndB, rfB]
end Go.Proofs.Ytiajoppbgebnpaa
