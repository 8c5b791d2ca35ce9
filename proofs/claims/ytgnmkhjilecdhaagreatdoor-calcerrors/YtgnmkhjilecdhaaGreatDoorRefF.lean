/- The reference's Text: it writes a number's decimal numeral, proved of the Go text for every number of 64 bits. -/
import Derived.Test.YtgnmkhjilecdhaaGreatDoorRefC
import Derived.Test.YtgnmkhjilecdhaaGreatDoorBgnJ
import Derived.Lib.Strings
namespace Go.Proofs.YtgnmkhjilecdhaaGreatDoor
open Go.RowKit Go.Sort
set_option linter.unusedVariables false

/-- What the loop keeps: m is left to be written, l is written, u is the number. -/
def TInv (u m : Nat) (l : List UInt8) : Prop := (l = [] ∧ m = u) ∨ (l ≠ [] ∧ m = 0 ∧ l = Lib.decDigits u) ∨ (l ≠ [] ∧ 0 < m ∧ Lib.decDigits m ++ l = Lib.decDigits u)
theorem tinv_step (u m : Nat) (l : List UInt8) (h : TInv u m l) (hc : 0 < m ∨ l = []) : TInv u (m / 10) (UInt8.ofNat (48 + m % 10) :: l) := by
  have key : Lib.decDigits m ++ l = Lib.decDigits u := by
    rcases h with ⟨rfl, rfl⟩ | ⟨h1, h2, h3⟩ | ⟨h1, h2, h3⟩
    · simp
    · rcases hc with hc | hc
      · omega
      · exact absurd hc h1
    · exact h3
  by_cases hm : m < 10
  · refine .inr (.inl ⟨by simp, by omega, ?_⟩)
    rw [← key, dec_small hm, show m % 10 = m by omega]; rfl
  · refine .inr (.inr ⟨by simp, by omega, ?_⟩)
    rw [← key, dec_big hm]; simp
theorem tinv_end (u m : Nat) (l : List UInt8) (h : TInv u m l) (hm : m = 0) (hl : l ≠ []) : l = Lib.decDigits u := by
  rcases h with ⟨h1, h2⟩ | ⟨h1, h2, h3⟩ | ⟨h1, h2, h3⟩
  · exact absurd h1 hl
  · exact h3
  · omega
theorem tinv_len (u m : Nat) (l : List UInt8) (hu : u < 18446744073709551616) (h : TInv u m l) : l.length ≤ 20 := by
  have hd := dec_len 19 u (by omega)
  rcases h with ⟨h1, h2⟩ | ⟨h1, h2, h3⟩ | ⟨h1, h2, h3⟩
  · rw [h1]; simp
  · rw [h3]; omega
  · have := congrArg List.length h3
    rw [List.length_append] at this; omega
theorem oneByte (w : World) (c : Int) : (convert 93 9 (.slice (some ⟨w.heap.size, 0, none⟩) 1 1)).run Tryz.prog (w.alloc (.cells #[.int .u8 c] 5)) = .ok (.string ⟨#[UInt8.ofNat c.toNat]⟩) (w.alloc (.cells #[.int .u8 c] 5)) := by
  rw [run_convert_bytes_string _ 93 9 5 _ _ _ Tryz.underlying93 Tryz.underlying5 Tryz.underlying9]
  rw [run_bytesToString _ _ _ _ [c] (by go_simp)]
  rfl
def emptyOf : Value → Nat
  | .string b => if b.size = 0 then 1 else 0
  | _ => 0

theorem empty_cons (c : UInt8) (b : ByteArray) : emptyOf (.string ((⟨#[c]⟩ : ByteArray) ++ b)) = 0 := by
  show (if ((⟨#[c]⟩ : ByteArray) ++ b).size = 0 then 1 else 0) = 0
  rw [if_neg]
  rw [ByteArray.size_append]
  show ¬ 1 + b.size = 0
  omega
theorem cons_data (c : UInt8) (b : ByteArray) : ((⟨#[c]⟩ : ByteArray) ++ b).data.toList = c :: b.data.toList := by
  obtain ⟨⟨l⟩⟩ := b
  have := ByteArray.mk_append_mk [c] l
  rw [show (⟨#[c]⟩ : ByteArray) = ByteArray.mk [c].toArray from rfl, this]; rfl
theorem digit_add (k : Nat) : (48 : UInt8) + UInt8.ofNat k = UInt8.ofNat (48 + k) := by rw [UInt8.ofNat_add]; rfl
theorem str_of_data (b : ByteArray) (n : Int) (h : b.data.toList = Lib.itoa n) : b = numeral n := by
  obtain ⟨⟨l⟩⟩ := b
  unfold numeral
  rw [← h]
theorem ret_str {a b : ByteArray} (h : a = b) : Ending.returned (.string a) = .returned (.string b) := by rw [h]

end Go.Proofs.YtgnmkhjilecdhaaGreatDoor
