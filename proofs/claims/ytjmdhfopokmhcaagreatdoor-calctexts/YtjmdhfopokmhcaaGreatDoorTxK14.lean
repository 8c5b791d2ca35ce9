/- CalcTexts: quadrillelaw14.is of three and of four arguments; what is told of texts' pieces. -/
import Derived.Test.YtjmdhfopokmhcaaGreatDoorTxF14
import Derived.Test.YtjmdhfopokmhcaaGreatDoorSnd5
import Derived.Test.YtjmdhfopokmhcaaGreatDoorCase5
import Derived.Test.YtjmdhfopokmhcaaGreatDoorTrimMath5
import Derived.Test.YtjmdhfopokmhcaaGreatDoorRgInv
namespace Go.Proofs.YtjmdhfopokmhcaaGreatDoor
open Go.RowKit Go.Sort
set_option linter.unusedVariables false

theorem is3 (f : Int) (x y z : Va) (out : Va) (hf : FunIs f [x, y, z] out) (w : World) (HT : Tb w) : Calls Tryz.prog 11 #[.int .i64 f, .slice (some ⟨w.heap.size, 0, none⟩) 3 3] (w.alloc (.cells #[.int .i64 x.k, .int .i64 x.i, .string x.t, .int .i64 y.k, .int .i64 y.i, .string y.t, .int .i64 z.k, .int .i64 z.i, .string z.t] 30)) fun e w' => e = .returned (vV out.k out.i out.t) ∧ Below (w.alloc (.cells #[.int .i64 x.k, .int .i64 x.i, .string x.t, .int .i64 y.k, .int .i64 y.i, .string y.t, .int .i64 z.k, .int .i64 z.i, .string z.t] 30)).heap.size (w.alloc (.cells #[.int .i64 x.k, .int .i64 x.i, .string x.t, .int .i64 y.k, .int .i64 y.i, .string y.t, .int .i64 z.k, .int .i64 z.i, .string z.t] 30)) w' :=
  is_any f [x, y, z] out.k out.i out.t hf _ 3 _ (HT.alloc _) (vals3 w x y z)
theorem is4 (f : Int) (x y z u : Va) (out : Va) (hf : FunIs f [x, y, z, u] out) (w : World) (HT : Tb w) : Calls Tryz.prog 11 #[.int .i64 f, .slice (some ⟨w.heap.size, 0, none⟩) 4 4] (w.alloc (.cells #[.int .i64 x.k, .int .i64 x.i, .string x.t, .int .i64 y.k, .int .i64 y.i, .string y.t, .int .i64 z.k, .int .i64 z.i, .string z.t, .int .i64 u.k, .int .i64 u.i, .string u.t] 30)) fun e w' => e = .returned (vV out.k out.i out.t) ∧ Below (w.alloc (.cells #[.int .i64 x.k, .int .i64 x.i, .string x.t, .int .i64 y.k, .int .i64 y.i, .string y.t, .int .i64 z.k, .int .i64 z.i, .string z.t, .int .i64 u.k, .int .i64 u.i, .string u.t] 30)).heap.size (w.alloc (.cells #[.int .i64 x.k, .int .i64 x.i, .string x.t, .int .i64 y.k, .int .i64 y.i, .string y.t, .int .i64 z.k, .int .i64 z.i, .string z.t, .int .i64 u.k, .int .i64 u.i, .string u.t] 30)) w' :=
  is_any f [x, y, z, u] out.k out.i out.t hf _ 4 _ (HT.alloc _) (vals4 w x y z u)
theorem is1v (f : Int) (x : Va) (out : Va) (hf : FunIs f [x] out) (W : World) (b : Nat) (HT : Tb W) (hv : ValsAt W (some ⟨b, 0, none⟩) [x]) : Calls Tryz.prog 11 #[.int .i64 f, .slice (some ⟨b, 0, none⟩) 1 1] W fun e w' => e = .returned (vV out.k out.i out.t) ∧ Below W.heap.size W w' :=
  is_any f [x] out.k out.i out.t hf _ 1 W HT hv
theorem is2v (f : Int) (x y : Va) (out : Va) (hf : FunIs f [x, y] out) (W : World) (b : Nat) (HT : Tb W) (hv : ValsAt W (some ⟨b, 0, none⟩) [x, y]) : Calls Tryz.prog 11 #[.int .i64 f, .slice (some ⟨b, 0, none⟩) 2 2] W fun e w' => e = .returned (vV out.k out.i out.t) ∧ Below W.heap.size W w' :=
  is_any f [x, y] out.k out.i out.t hf _ 2 W HT hv
theorem lk {L : Nat → Bool} {j k : Nat} (h : (if j = k then true else L j) = true) (hn : j ≠ k) : L j = true := by rwa [if_neg hn] at h
theorem lkf {L : Nat → Bool} {j k : Nat} (h : (if j = k then true else L j) = false) (hn : j ≠ k) : L j = false := by rwa [if_neg hn] at h
/-- A slice that a statement has laid. -/
def SlF (w : World) (x : Value) (n : Nat) (l : List Va) : Prop := ∃ b, x = .slice (some ⟨b, 0, none⟩) n n ∧ ValsAt w (some ⟨b, 0, none⟩) l
theorem SlF.keep {w w' : World} {x : Value} {n : Nat} {l : List Va} (h : SlF w x n l) (hb : Below w.heap.size w w') : SlF w' x n l := by
  obtain ⟨b, e, g⟩ := h
  exact ⟨b, e, g.keep hb⟩
/-- A variable that a statement has laid. -/
def BxF (B : Nat) (w : World) (x : Value) (X : Nat) (v : Va) : Prop := x = .pointer (some ⟨X, 0, none⟩) ∧ B ≤ X ∧ O3 w X (.int .i64 v.k) (.int .i64 v.i) (.string v.t)
theorem BxF.keep {B : Nat} {w w' : World} {x : Value} {X : Nat} {v : Va} (h : BxF B w x X v) (hb : Below w.heap.size w w') : BxF B w' x X v := ⟨h.1, h.2.1, h.2.2.keep hb⟩
theorem BxF.lt {B : Nat} {w : World} {x : Value} {X : Nat} {v : Va} (h : BxF B w x X v) : X < w.heap.size := World.block_lt_of_cell? w _ h.2.2.1.1
theorem app_eq {s t : ByteArray} (h : s.data.toList = t.data.toList) : s = t := by
  apply ByteArray.ext
  exact Array.toList_inj.1 h
theorem cat2_app (s t : ByteArray) : cat2 s t = s ++ t := app_eq (by rw [ByteArray.data_append, Array.toList_append]; rfl)
/-- A piece at the front and the piece behind it. -/
theorem mid_front (s : ByteArray) (m : Nat) : T5.midOf s 0 m = s.extract 0 (T5.sk s m 0) := rfl
theorem mid_back (s : ByteArray) (m : Nat) : T5.midOf s m (T5.rc s 0) = s.extract (T5.sk s m 0) s.size := by
  have h := T5.sk_le s m 0 (Nat.zero_le _)
  have h2 := T5.rc_sk s m 0 (Nat.zero_le _)
  rw [T5.midOf, T5.sk_all s (T5.rc s 0) _ h (by omega)]
/-- Small letters' capitals. -/
theorem up_low (s : ByteArray) : T5.casB 97 65 (T5.casB 65 97 s) = T5.casB 97 65 s := T5.casB_twice 65 97 (by decide) (by decide) T5.cas_ul s
theorem low_size (s : ByteArray) : (T5.casB 65 97 s).size = s.size := T5.casB_size 65 97 s
/-- Where the end of a text stands in it. -/
theorem find_back (s : ByteArray) (m : Nat) (h : m ≤ T5.rc s 0) : ∃ q, T5.fnd s (s.extract (T5.sk s m 0) s.size) (T5.rc s 0 + 2 - 1) 1 = some q ∧ 1 ≤ q ∧ q ≤ m + 1 :=
  T5.fnd_least s _ _ 1 (m + 1) (by omega) (by omega) (by rw [Nat.add_sub_cancel]; exact T5.occ_self s _ (T5.sk_le s m 0 (Nat.zero_le _)))
end Go.Proofs.YtjmdhfopokmhcaaGreatDoor
