/- What the functions of package spot that go over bytes answer, for every text: proved of the Go text. What spot.ReadRef answers, for every text: the reference that the text begins with, how many bytes it has, and whether there is one: proved of the Go text. What spot.Text, spot.Read, readCorner and between answer, for every place, text and corners: proved of the Go text. -/
import Derived.Test.YtbpogngnhhkjbaaDoorLeJ
import Derived.Test.YtbpogngnhhkjbaaDoorPlaces
import Derived.Handy
namespace Go.Proofs.YtbpogngnhhkjbaaDoor
open Go.RowKit
set_option linter.unusedVariables false

end Go.Proofs.YtbpogngnhhkjbaaDoor
namespace Go.Proofs.YtbpogngnhhkjbaaDoor
open Go.RowKit
set_option linter.unusedVariables false

/-- Where the parts of the reference that a text may begin with end. -/
def cA (s : ByteArray) : Nat := pinE s 0
def cB (s : ByteArray) : Nat := runE isL s (cA s)
def cC (s : ByteArray) : Nat := pinE s (cB s)
def cD (s : ByteArray) : Nat := runE dig s (cC s)
def lead0 : List UInt8 → Bool
  | [] => false
  | c :: _ => c == 48
/-- It begins with none. -/
def synS (s : ByteArray) : Bool := cB s == cA s || cD s == cC s || lead0 (s.data.toList.drop (cC s))
def colS (s : ByteArray) : Nat := col (s.extract (cA s) (cB s)).data.toList
def rowS (s : ByteArray) : Nat := val (s.extract (cC s) (cD s)).data.toList
def offS (s : ByteArray) : Bool := decide (702 < colS s) || decide (65536 < rowS s)
/-- What is answered: error, bytes, row, column, pins. -/
def rE (s : ByteArray) : Int := if synS s then 20 else if offS s then 10 else 0
def rN (s : ByteArray) : Nat := if synS s then 0 else cD s
def rR (s : ByteArray) : Int := if synS s || offS s then 0 else (rowS s : Int) - 1
def rC (s : ByteArray) : Int := if synS s || offS s then 0 else (colS s : Int) - 1
def rP (s : ByteArray) : Bool := !(synS s || offS s) && decide (cB s < cC s)
def rQ (s : ByteArray) : Bool := !(synS s || offS s) && decide (0 < cA s)

theorem cut_le (s : ByteArray) : cA s ≤ cB s ∧ cB s ≤ cC s ∧ cC s ≤ cD s ∧ cD s ≤ s.size := by
  have h1 : cA s ≤ s.size := pinE_le s 0 (Nat.zero_le _)
  have h2 : cB s ≤ s.size := runE_le _ s _ h1
  have h3 : cC s ≤ s.size := pinE_le s _ h2
  exact ⟨runE_ge _ _ _, pinE_ge _ _, runE_ge _ _ _, runE_le _ s _ h3⟩
theorem lead0_at (s : ByteArray) (c : Nat) (h : c < s.size) : lead0 (s.data.toList.drop c) = ((s[c].toNat : Int) == 48) := by
  rw [drop_cons s c h, eq_48]; rfl
theorem ret_ref {a b c d e f : Int} {p q r t : Bool} {n m : Int} (h1 : a = b) (h2 : c = d) (h3 : p = q) (h4 : r = t) (h5 : n = m) (h6 : e = f) :
    Ending.returned (.tuple #[refV a c p r, .int .i64 n, .int .i64 e]) = .returned (.tuple #[refV b d q t, .int .i64 m, .int .i64 f]) := by rw [h1, h2, h3, h4, h5, h6]

end Go.Proofs.YtbpogngnhhkjbaaDoor
namespace Go.Proofs.YtbpogngnhhkjbaaDoor
open Go.RowKit
set_option linter.unusedVariables false

/-- A text that is no place's. -/
def rdBad (s : ByteArray) : Bool := rE s == 20 || (rN s != s.size || !plainL s.data.toList)
theorem rE_cases (s : ByteArray) : rE s = 20 ∨ rE s = 10 ∨ rE s = 0 := by unfold rE; split; exact .inl rfl; split; exact .inr (.inl rfl); exact .inr (.inr rfl)
theorem rN_le (s : ByteArray) : rN s ≤ s.size := by unfold rN; split; omega; exact (cut_le s).2.2.2
theorem below_drewN {B : Nat} {a w : World} (h : Below B a w) (n : Nat) : Below B a (w.drewN n) := ⟨h.os, h.tape, h.output, h.size, h.block⟩
theorem prod_bound (x y : Int) (hx : 0 ≤ x) (hx' : x ≤ 65536) (hy : 0 ≤ y) (hy' : y ≤ 702) : 0 ≤ x * y ∧ x * y ≤ 46006272 :=
  ⟨Int.mul_nonneg hx hy, Int.le_trans (Int.mul_le_mul hx' hy' hy (by decide)) (by decide)⟩
end Go.Proofs.YtbpogngnhhkjbaaDoor
