/- A rune's form and its number: of no program. -/
import Derived.Test.YtllbgjeibcaajaaDoorDec5
namespace Go.Proofs.YtllbgjeibcaajaaDoor
set_option linter.unusedVariables false

theorem app_get (a s : ByteArray) (i : Nat) (h : i < a.size) : (a ++ s).get! i = a.get! i := by
  show (a ++ s).data[i]! = a.data[i]!
  have h1 : i < (a ++ s).data.size := by
    have : (a ++ s).size = a.size + s.size := ByteArray.size_append
    show i < (a ++ s).size
    omega
  rw [getElem!_pos (a ++ s).data i h1, getElem!_pos a.data i (by simpa using h)]
  simp only [ByteArray.data_append]
  rw [Array.getElem_append_left]
/-- Is there a rune of that number? -/
def isR (n : Int) : Prop := 0 ≤ n ∧ n ≤ 1114111 ∧ ¬ (55296 ≤ n ∧ n ≤ 57343)

theorem valid_of {n : Int} (h : isR n) : Utf8.valid n = true := by
  obtain ⟨h1, h2, h3⟩ := h
  unfold Utf8.valid
  simp
  omega
theorem b1 {x : Nat} (h : x < 256) : (UInt8.ofNat x).toNat = x := by simp; omega
set_option maxHeartbeats 1000000 in
theorem dec_enc (n : Nat) (h : isR n) (s : ByteArray) : Utf8.decode (Utf8.encode n ++ s) 0 = (n, (Utf8.encode n).size) ∧ 1 ≤ (Utf8.encode n).size ∧ (Utf8.encode n).size ≤ 4 := by
  have hz : (Utf8.encode n ++ s).size = (Utf8.encode n).size + s.size := ByteArray.size_append
  rw [Lib.decode_at, hz]
  have hv := valid_of h
  obtain ⟨h1, h2, h3⟩ := h
  have hn : (n : Int).toNat = n := by simp
  have g : ∀ i, i < (Utf8.encode n).size → (Utf8.encode n ++ s).get! i = (Utf8.encode n).get! i := fun i hi => app_get _ _ i hi
  revert g
  have e : Utf8.encode n = if n < 0x80 then ⟨#[UInt8.ofNat n]⟩
    else if n < 0x800 then ⟨#[UInt8.ofNat (0xC0 + n / 64), UInt8.ofNat (0x80 + n % 64)]⟩
    else if n < 0x10000 then ⟨#[UInt8.ofNat (0xE0 + n / 4096), UInt8.ofNat (0x80 + n / 64 % 64), UInt8.ofNat (0x80 + n % 64)]⟩
    else ⟨#[UInt8.ofNat (0xF0 + n / 262144), UInt8.ofNat (0x80 + n / 4096 % 64), UInt8.ofNat (0x80 + n / 64 % 64), UInt8.ofNat (0x80 + n % 64)]⟩ := by
    unfold Utf8.encode
    simp only [hv, if_true, hn]
  by_cases c1 : n < 128
  · rw [if_pos c1] at e
    rw [e]
    intro g
    have e0 : ((⟨#[UInt8.ofNat n]⟩ : ByteArray) ++ s).get! 0 = UInt8.ofNat n := g 0 Nat.zero_lt_one
    have z : (⟨#[UInt8.ofNat n]⟩ : ByteArray).size = 1 := rfl
    rw [e0, z, b1 (by omega)]
    unfold Lib.decodeN
    rw [if_pos c1]
    exact ⟨rfl, by decide, by decide⟩
  · rw [if_neg c1] at e
    by_cases c2 : n < 2048
    · rw [if_pos c2] at e
      rw [e]
      intro g
      have z : (⟨#[UInt8.ofNat (0xC0 + n / 64), UInt8.ofNat (0x80 + n % 64)]⟩ : ByteArray).size = 2 := rfl
      have e0 := g 0 (by rw [z]; decide)
      have e1 := g 1 (by rw [z]; decide)
      change _ = UInt8.ofNat (0xC0 + n / 64) at e0
      change _ = UInt8.ofNat (0x80 + n % 64) at e1
      rw [e0, e1, z, b1 (by omega), b1 (by omega)]
      refine ⟨?_, by decide, by decide⟩
      unfold Lib.decodeN
      repeat' split
      all_goals first | (exfalso; omega) | (apply Prod.ext <;> simp only <;> omega)
    · rw [if_neg c2] at e
      by_cases c3 : n < 65536
      · rw [if_pos c3] at e
        rw [e]
        intro g
        have z : (⟨#[UInt8.ofNat (0xE0 + n / 4096), UInt8.ofNat (0x80 + n / 64 % 64), UInt8.ofNat (0x80 + n % 64)]⟩ : ByteArray).size = 3 := rfl
        have e0 := g 0 (by rw [z]; decide)
        have e1 := g 1 (by rw [z]; decide)
        have e2 := g 2 (by rw [z]; decide)
        change _ = UInt8.ofNat (0xE0 + n / 4096) at e0
        change _ = UInt8.ofNat (0x80 + n / 64 % 64) at e1
        change _ = UInt8.ofNat (0x80 + n % 64) at e2
        rw [e0, e1, e2, z, b1 (by omega), b1 (by omega), b1 (by omega)]
        refine ⟨?_, by decide, by decide⟩
        unfold Lib.decodeN
        repeat' split
        all_goals first | (exfalso; omega) | (apply Prod.ext <;> simp only <;> omega)
      · rw [if_neg c3] at e
        rw [e]
        intro g
        have z : (⟨#[UInt8.ofNat (0xF0 + n / 262144), UInt8.ofNat (0x80 + n / 4096 % 64), UInt8.ofNat (0x80 + n / 64 % 64), UInt8.ofNat (0x80 + n % 64)]⟩ : ByteArray).size = 4 := rfl
        have e0 := g 0 (by rw [z]; decide)
        have e1 := g 1 (by rw [z]; decide)
        have e2 := g 2 (by rw [z]; decide)
        have e3 := g 3 (by rw [z]; decide)
        change _ = UInt8.ofNat (0xF0 + n / 262144) at e0
        change _ = UInt8.ofNat (0x80 + n / 4096 % 64) at e1
        change _ = UInt8.ofNat (0x80 + n / 64 % 64) at e2
        change _ = UInt8.ofNat (0x80 + n % 64) at e3
        rw [e0, e1, e2, e3, z, b1 (by omega), b1 (by omega), b1 (by omega), b1 (by omega)]
        refine ⟨?_, by decide, by decide⟩
        unfold Lib.decodeN
        repeat' split
        all_goals first | (exfalso; omega) | (apply Prod.ext <;> simp only <;> omega)
theorem rc_one (t : ByteArray) (n k : Nat) (h : Utf8.decode t 0 = (n, k)) (hk : k = t.size) (h1 : 1 ≤ t.size) : rc t 0 = 1 := by
  have hw : wd t 0 = t.size := by unfold wd; rw [h, hk]
  rw [rc_step t 0 (by omega), hw, rc_end t _ (by omega)]
/-- One rune alone. -/
theorem rc_enc (n : Nat) (h : isR n) : rc (Utf8.encode n) 0 = 1 := by
  have hd := dec_enc n h ByteArray.empty
  rw [ByteArray.append_empty] at hd
  exact rc_one _ n _ hd.1 rfl hd.2.1
end Go.Proofs.YtllbgjeibcaajaaDoor
