/- Small facts for the ways through the reference's form. -/
import Derived.Test.YtcabgnikbgoikaaDoorR2Leaf
namespace Go.Proofs.YtcabgnikbgoikaaDoor
open Go.RowKit
set_option linter.unusedVariables false
set_option maxRecDepth 100000
abbrev formV (n c r : Int) (q p : Bool) : Value := .agg #[.int .i64 n, .int .i64 c, .int .i64 r, .bool q, .bool p]
theorem ext_nil (s : ByteArray) (a b : Nat) (h : b ≤ a) : s.extract a b = { data := #[] } := by
  apply ba_eq
  rw [Lib.extract_data, show b - a = 0 by omega]; rfl
theorem ext_at (s y : ByteArray) (a b : Nat) (hy : s.extract a b = y) (h : 0 < y.size) (ha : a < s.size) : y[0] = s[a] := by
  obtain ⟨r, hr⟩ := toList_cons y h
  have he : y.data.toList = (s.data.toList.drop a).take (b - a) := by rw [← hy, Lib.extract_data]
  rw [drop_cons s a ha] at he
  rw [he] at hr
  cases hk : b - a with
  | zero => rw [hk] at hr; simp at hr
  | succ k => rw [hk, List.take_succ_cons] at hr; exact (List.cons.inj hr).1.symm
theorem ltrI_not (c : UInt8) (h : isL c = false) : decide (0 ≤ ltrI c) = false := by unfold ltrI; rw [if_neg (by rw [h]; decide)]; decide
theorem ltrI_yes (c : UInt8) (h : isL c = true) : decide (0 ≤ ltrI c) = true := by
  have := (capOf_L c h).2.2.2
  unfold ltrI; rw [if_pos h]; simp; omega
end Go.Proofs.YtcabgnikbgoikaaDoor
