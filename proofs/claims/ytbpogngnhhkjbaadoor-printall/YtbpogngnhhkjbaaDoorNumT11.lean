/- The reference's Text: it writes a number's decimal numeral, proved of the Go text for every number of 64 bits. -/
import Derived.Test.YtbpogngnhhkjbaaDoorPrJ
import Derived.Lib.Strings
namespace Go.Proofs.YtbpogngnhhkjbaaDoor.T9
open Go.RowKit Go.Sort
set_option linter.unusedVariables false

abbrev num (s o : Bool) (m : Int) : Value := .agg #[.bool s, .bool o, .int .u64 m]
abbrev box (s o : Bool) (m : Int) : Obj := .cells #[.bool s, .bool o, .int .u64 m] 73
theorem of_as (n : Int) (s : Bool) (m : Int) (w : World) (h0 : -9223372036854775808 ≤ n) (h1 : n ≤ 9223372036854775807) (hs : decide (n < 0) = s) (hm : (n.natAbs : Int) = m) (hp : 0 ≤ n) :
    Calls Tryd.prog 41 #[.int .i64 n] w fun e w' => e = .returned (num s false m) ∧ w' = w.alloc (box s false m) := by
  have hn : ¬ n < 0 := by omega
  have e1 : s = false := by rw [← hs]; simpa using hp
  have e2 : m = n := by omega
  subst e1 e2
  clear hs hm
  go_enter Tryd.func41, Tryd.ntmps41
  go_wp2
  go_returns
  exact ⟨rfl, rfl⟩
/-- What the loop keeps: m is left to be written, l is written, u is the number. -/
def TInv (u m : Nat) (l : List UInt8) : Prop := (l = [] ∧ m = u) ∨ (l ≠ [] ∧ m = 0 ∧ l = Lib.decDigits u) ∨ (l ≠ [] ∧ 0 < m ∧ Lib.decDigits m ++ l = Lib.decDigits u)
theorem tinv_step (u m : Nat) (l : List UInt8) (h : TInv u m l) (hc : 0 < m ∨ l = []) : TInv u (m / 10) (UInt8.ofNat (48 + m % 10) :: l) := by
  have key : Lib.decDigits m ++ l = Lib.decDigits u := by
    rcases h with ⟨rfl, rfl⟩ | ⟨h1, h2, h3⟩ | ⟨h1, h2, h3⟩
    · simp
    · rcases hc with hc | hc
      · omega
      · exact absurd hc h1
    · exact h3
  by_cases hm : m < 10
  · refine .inr (.inl ⟨by simp, by omega, ?_⟩)
    rw [← key, dec_small hm, show m % 10 = m by omega]; rfl
  · refine .inr (.inr ⟨by simp, by omega, ?_⟩)
    rw [← key, dec_big hm]; simp
theorem tinv_end (u m : Nat) (l : List UInt8) (h : TInv u m l) (hm : m = 0) (hl : l ≠ []) : l = Lib.decDigits u := by
  rcases h with ⟨h1, h2⟩ | ⟨h1, h2, h3⟩ | ⟨h1, h2, h3⟩
  · exact absurd h1 hl
  · exact h3
  · omega
theorem tinv_len (u m : Nat) (l : List UInt8) (hu : u < 18446744073709551616) (h : TInv u m l) : l.length ≤ 20 := by
  have hd := dec_len 19 u (by omega)
  rcases h with ⟨h1, h2⟩ | ⟨h1, h2, h3⟩ | ⟨h1, h2, h3⟩
  · rw [h1]; simp
  · rw [h3]; omega
  · have := congrArg List.length h3
    rw [List.length_append] at this; omega
theorem oneByte (w : World) (c : Int) : (convert 37 9 (.slice (some ⟨w.heap.size, 0, none⟩) 1 1)).run Tryd.prog (w.alloc (.cells #[.int .u8 c] 5)) = .ok (.string ⟨#[UInt8.ofNat c.toNat]⟩) (w.alloc (.cells #[.int .u8 c] 5)) := by
  rw [run_convert_bytes_string _ 37 9 5 _ _ _ Tryd.underlying37 Tryd.underlying5 Tryd.underlying9]
  rw [run_bytesToString _ _ _ _ [c] (by go_simp)]
  rfl
def emptyOf : Value → Nat
  | .string b => if b.size = 0 then 1 else 0
  | _ => 0

theorem empty_cons (c : UInt8) (b : ByteArray) : emptyOf (.string ((⟨#[c]⟩ : ByteArray) ++ b)) = 0 := by
  show (if ((⟨#[c]⟩ : ByteArray) ++ b).size = 0 then 1 else 0) = 0
  rw [if_neg]
  rw [ByteArray.size_append]
  show ¬ 1 + b.size = 0
  omega
theorem cons_data (c : UInt8) (b : ByteArray) : ((⟨#[c]⟩ : ByteArray) ++ b).data.toList = c :: b.data.toList := by
  obtain ⟨⟨l⟩⟩ := b
  have := ByteArray.mk_append_mk [c] l
  rw [show (⟨#[c]⟩ : ByteArray) = ByteArray.mk [c].toArray from rfl, this]; rfl
theorem digit_add (k : Nat) : (48 : UInt8) + UInt8.ofNat k = UInt8.ofNat (48 + k) := by rw [UInt8.ofNat_add]; rfl
theorem str_of_data (b : ByteArray) (n : Int) (h : b.data.toList = Lib.itoa n) : b = numeral n := by
  obtain ⟨⟨l⟩⟩ := b
  unfold numeral
  rw [← h]
theorem ret_str {a b : ByteArray} (h : a = b) : Ending.returned (.string a) = .returned (.string b) := by rw [h]

set_option maxHeartbeats 1000000 in
theorem refText_pos (n : Int) (w : World) (h0 : 0 ≤ n) (h1 : n ≤ 9223372036854775807) :
    Calls Tryd.prog 20 #[.int .i64 n] w fun e w' => e = .returned (.string (numeral n)) ∧ Below w.heap.size w w' := by
  obtain ⟨u, rfl⟩ : ∃ u : Nat, n = (u : Int) := ⟨n.natAbs, by omega⟩
  go_enter Tryd.func20, Tryd.ntmps20
  go_wp2_with (go_at_call 41; refine (of_as _ false u _ (by omega) (by omega) (by simp) (by omega) (by omega)).mono ?_; rintro e w' ⟨rfl, rfl⟩)
  go_loopw [4, 5] (fun s q wr => ∃ (b : ByteArray) (m : Nat), s = .string b ∧ q = .int .u64 m ∧ Hid (TInv u m b.data.toList) ∧ m < 18446744073709551616 ∧ b.size ≤ 20 ∧ wr.cell? ⟨w.heap.size + 1, 0, none⟩ = some (.bool false) ∧ w.heap.size + 1 < wr.heap.size ∧ Hid (Below w.heap.size w wr)) (fun s q _ => (intOf q).toNat + emptyOf s)
  case atStart =>
    refine ⟨ByteArray.empty, u, rfl, rfl, hide (.inl ⟨rfl, rfl⟩), by omega, by decide, ?_, ?_, ?_⟩
    · go_simp
    · go_simp
    · exact hide (((Below.refl _ _).alloc (Nat.le_refl _) _).alloc (by simp) _)
  case round =>
    obtain ⟨b, m, rfl, rfl, Ht, hm, hb, c0, hz, Hb⟩ := hrel
    have hcv := oneByte
    have Hle := hide (Hb.out.size)
    have Hc : Hid (∀ o, (wr.alloc o).cell? ⟨w.heap.size + 1, 0, none⟩ = some (.bool false)) := hide (fun o => (((Below.refl wr.heap.size wr).alloc (Nat.le_refl _) o).cell (p := ⟨w.heap.size + 1, 0, none⟩) hz).trans c0)
    have Hs : Hid ((0 < m ∨ b.data.toList = []) → TInv u (m / 10) (({ data := #[48 + UInt8.ofNat (m % 10)] } : ByteArray) ++ b).data.toList) := hide (fun hc => by rw [cons_data, digit_add]; exact tinv_step u m _ Ht.out hc)
    have Hl : Hid ((0 < m ∨ b.data.toList = []) → (({ data := #[48 + UInt8.ofNat (m % 10)] } : ByteArray) ++ b).size ≤ 20) := hide (fun hc => by rw [Lib.size_eq]; exact tinv_len u _ _ (by omega) (Hs.out hc))
    by_cases h : 0 < m
    · have h' : (0 : Int) < m := by omega
      go_wp2
      go_roundw
      case rel => exact ⟨_, m / 10, rfl, by simp, hide (Hs.out (.inl h)), by omega, Hl.out (.inl h), Hc.out _, by simp; omega, hide (Hb.out.alloc Hle.out _)⟩
      case measure =>
        rw [empty_cons]
        show ((m : Int) / 10).toNat + 0 < ((m : Int)).toNat + _
        omega
    · have hm0 : m = 0 := by omega
      subst hm0
      by_cases he : 0 < b.size
      · have n1 := toList_ne b he
        have n2 := isEmpty_ne b he
        have Hend := hide (tinv_end u 0 _ Ht.out rfl (by rw [← ByteArray.toList_eq]; exact n1))
        go_wp2
        go_ret
        exact ⟨ret_str (str_of_data _ _ (by rw [itoa_pos]; exact Hend.out)), Hb.out⟩
      · have n1 : b.toList = [] := by rw [ByteArray.toList_eq]; exact toList_nil b he
        have hz0 : b.size = 0 := by omega
        have hn := toList_nil b he
        have Hn := hide hn
        clear hn
        go_wp2
        go_roundw
        case rel => exact ⟨_, 0 / 10, rfl, by simp, hide (Hs.out (.inr Hn.out)), by omega, Hl.out (.inr Hn.out), Hc.out _, by simp; omega, hide (Hb.out.alloc Hle.out _)⟩
        case measure =>
          rw [empty_cons, show emptyOf (.string b) = 1 from if_pos hz0]
          decide
end Go.Proofs.YtbpogngnhhkjbaaDoor.T9
