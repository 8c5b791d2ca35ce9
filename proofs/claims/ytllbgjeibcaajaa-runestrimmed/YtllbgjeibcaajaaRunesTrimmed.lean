/- RunesTrimmed: what is trimmed is trimmed; no blank at its ends, none beside another; capitals of small letters are capitals, and turned twice back; a text is as long as it was: the law returns true, for every input. Proved of the Go text. -/
import Derived.Test.YtllbgjeibcaajaaBegun5
import Derived.Test.YtllbgjeibcaajaaTimes5
import Derived.Test.YtllbgjeibcaajaaTrimMath5
import Derived.Deep.QuietTactic
namespace Go.Proofs.Ytllbgjeibcaajaa
open Go.RowKit Go.Sort
set_option linter.unusedVariables false

theorem below_drewN {B : Nat} {a w : World} (h : Below B a w) (n : Nat) : Below B a (w.drewN n) := ⟨h.os, h.tape, h.output, h.size, h.block⟩
theorem trimB_size (s : ByteArray) : (trimB s).size ≤ s.size := by
  have := trF_len s.data.toList
  rw [← Lib.size_eq] at this
  show (trimL s.data.toList).toArray.size ≤ _
  rw [List.size_toArray]
  unfold trimL
  omega
def GoodAt (T : ByteArray) : Prop := ∀ (i : Nat) (h : i < T.size), T[i] = 32 → 0 < i ∧ i + 1 < T.size ∧ ∀ h' : i - 1 < T.size, T[i - 1] ≠ 32
def StepAt (t T : ByteArray) (q : Nat → Nat) : Prop := ∀ (i : Nat) (h : i < t.size), (t[i] = 32 ∧ q (i + 1) = q i) ∨
    (t[i] ≠ 32 ∧ q (i + 1) = q i + 1 ∧ ∃ h1 : q i < T.size, T[q i] = t[i]) ∨
    (t[i] ≠ 32 ∧ q (i + 1) = q i + 2 ∧ ∃ b, b = q i + 1 ∧ ∃ (h0 : q i < T.size) (h1 : b < T.size), T[q i] = 32 ∧ T[b] = t[i])
set_option maxHeartbeats 2000000 in
set_option maxRecDepth 100000 in
theorem runesTrimmed_walk (s : ByteArray) (w : World) (hT : Tab w) :
    Calls Try.prog 6 #[.string s] w fun e w' => e = .returned (.bool true) ∧ Below w.heap.size w w' := by
  have HB := begun_any
  have HS := short_any s
  have hz := sh_size s
  replace hT := hide hT
  generalize sh s = t at *
  have H1 := trim_any t hz
  have H2 := upper_any t hz
  have H3 := lower_any t hz
  have H4 := turn_any t hz
  have hzt := trimB_size t
  have H5 := trim_any (trimB t) (by omega)
  rw [trimB_idem] at H5
  have H6 := upper_any (casB 65 97 t) (by rw [casB_size]; exact hz)
  rw [casB_twice 65 97 (by decide) (by decide) cas_ul] at H6
  have H7 := lower_any (casB 97 65 t) (by rw [casB_size]; exact hz)
  rw [casB_twice 97 65 (by decide) (by decide) cas_lu] at H7
  have z1 := casB_size 97 65 t
  have z2 := casB_size 65 97 t
  have z3 := turned_size t
  have K1 : Hid (GoodAt (trimB t)) := hide (trimmed_at t)
  have K2 : Hid (StepAt t (trimB t) (kk t)) := hide (fun i h => by
    rcases kk_step t i h with h | h | ⟨a, b, c, d, e⟩
    · exact .inl h
    · exact .inr (.inl h)
    · exact .inr (.inr ⟨a, b, _, rfl, by omega, c, d, e⟩))
  have K3 := hide (kk_end t)
  have K0 : Hid (kk t 0 = 0) := hide (by simp [kk, trF])
  generalize trimB t = T at *
  generalize casB 97 65 t = U at *
  generalize casB 65 97 t = L at *
  generalize turned t = V at *
  generalize kk t = q at *
  have y1 : ((U.size : Int) != t.size) = false := by rw [z1]; simp
  have y2 : ((L.size : Int) != t.size) = false := by rw [z2]; simp
  have y3 : ((V.size : Int) != t.size) = false := by rw [z3]; simp
  replace y1 := hide y1
  replace y2 := hide y2
  replace y3 := hide y3
  replace hzt := hide hzt
  replace hz := hide hz
  replace z1 := hide z1
  replace z2 := hide z2
  replace z3 := hide z3
  go_enter Try.func6, Try.ntmps6
  go_wp2_with fail
  refine (HB.out _ hT.out).mono ?_
  rintro e w1 ⟨rfl, hb1⟩
  go_wp2_with fail
  refine (HS.out _).mono ?_
  rintro e w2 ⟨rfl, hb2⟩
  go_wp2_with fail
  refine (H1.out _).mono ?_
  rintro e w3 ⟨rfl, hb3⟩
  go_wp2_with fail
  refine (H2.out _).mono ?_
  rintro e w4 ⟨rfl, hb4⟩
  go_wp2_with fail
  refine (H3.out _).mono ?_
  rintro e w5 ⟨rfl, hb5⟩
  go_wp2_with fail
  refine (H4.out _).mono ?_
  rintro e w6 ⟨rfl, hb6⟩
  go_wp2_with fail
  refine (H5.out _).mono ?_
  rintro e w7 ⟨rfl, hb7⟩
  have hB7 := hide (next (next (next (next (next (next hb1 hb2) hb3) hb4) hb5) hb6) hb7)
  clear hb1 hb2 hb3 hb4 hb5 hb6 hb7
  have y1 := y1.out
  have y2 := y2.out
  have y3 := y3.out
  have z1 := z1.out
  have z2 := z2.out
  have z3 := z3.out
  go_wp2_with fail
  refine (H6.out _).mono ?_
  rintro e w8 ⟨rfl, hb8⟩
  go_wp2_with fail
  refine (H7.out _).mono ?_
  rintro e w9 ⟨rfl, hb9⟩
  have hB9 := hide (next (next hB7.out hb8) hb9)
  clear hb8 hb9 hB7 H1 H2 H3 H4 H5 H6 H7 HB HS y1 y2 y3 z1 z2 z3
  go_wp2_with fail
  go_loopw [7] (fun iv wr => ∃ k : Nat, k ≤ T.size ∧ iv = .int .i64 k ∧ Hid (wr = w9)) (fun iv _ => T.size - (intOf iv).toNat)
  case atStart => exact ⟨0, Nat.zero_le _, rfl, hide rfl⟩
  case round =>
    obtain ⟨k, hk, rfl, hw⟩ := hrel
    obtain rfl := hw.out
    clear hw
    have hzz := hz.out
    have hzz2 := hzt.out
    by_cases hlt : k < T.size
    · have hk1 : Hid (wrap64 ((k : Int) + 1) = (k : Int) + 1) := hide (IntWalk.wrap64_in _ ⟨by omega, by omega⟩)
      by_cases h1 : T[k] = 32
      · obtain ⟨g1, g2, g3⟩ := K1.out k hlt h1
        obtain ⟨m, hm⟩ : ∃ m, k = m + 1 := ⟨k - 1, by omega⟩
        have g4 := g3 (by omega)
        have h2 : ((T[k].toNat : Int) == 32) = true := by rw [h1]; rfl
        have hmlt : m < T.size := by omega
        have h3 : ((T[m].toNat : Int) == 32) = false := by
          rw [beq_eq_false_iff_ne]
          intro e
          apply g4
          have : k - 1 = m := by omega
          simp only [this]
          exact UInt8.toNat_inj.1 (by show T[m].toNat = 32; omega)
        have h4 : ((k : Int) == 0) = false := by rw [beq_eq_false_iff_ne]; omega
        have h5 : ((k : Int) == (T.size : Int) - 1) = false := by rw [beq_eq_false_iff_ne]; omega
        have gm : (k : Int) - 1 = (m : Int) := by omega
        have gs : wrap64 ((T.size : Int) - 1) = (T.size : Int) - 1 := IntWalk.wrap64_in _ ⟨by clear gm; omega, by clear gm; omega⟩
        have hk2 := hk1.out
        clear g1 g2 g3 g4 h1
        replace hm := hide hm
        go_wp2_with fail
        go_roundw
        case rel => exact ⟨k + 1, by clear gm gs hk2; omega, by rw [Int.natCast_add]; rfl, hide trivial⟩
        case measure => clear gm gs hk2; simp [intOf]; omega
      · have h2 : ((T[k].toNat : Int) == 32) = false := by
          rw [beq_eq_false_iff_ne]
          intro e
          exact h1 (UInt8.toNat_inj.1 (by show T[k].toNat = 32; omega))
        have hk2 := hk1.out
        clear h1
        go_wp2_with fail
        go_roundw
        case rel => exact ⟨k + 1, by clear hk2; omega, by rw [Int.natCast_add]; rfl, hide trivial⟩
        case measure => clear hk2; simp [intOf]; omega
    · clear K1
      go_wp2_with fail
      go_loopw [8, 9] (fun kv iv wr => ∃ i : Nat, i ≤ t.size ∧ iv = .int .i64 i ∧ kv = .int .i64 (q i) ∧ Hid (Below w.heap.size w wr)) (fun _ iv _ => t.size - (intOf iv).toNat)
      case atStart => exact ⟨0, Nat.zero_le _, rfl, by rw [K0.out]; rfl, hB9⟩
      case round =>
        clear hB9
        obtain ⟨i, hi, rfl, rfl, hB⟩ := hrel
        by_cases hlt2 : i < t.size
        · have hi2 : Hid (wrap64 ((i : Int) + 1) = (i : Int) + 1) := hide (IntWalk.wrap64_in _ ⟨by omega, by omega⟩)
          rcases K2.out i hlt2 with ⟨h1, h2⟩ | ⟨h1, h2, h3, h4⟩ | ⟨h1, h2, b, hb, e7, h3, h4, h5⟩
          · have e1 : ((t[i].toNat : Int) == 32) = true := by rw [h1]; rfl
            have hi3 := hi2.out
            replace h2 := hide h2
            clear h1
            go_wp2_with fail
            go_roundw
            case rel => exact ⟨i + 1, by clear hi3; omega, by rw [Int.natCast_add]; rfl, by rw [h2.out], hB⟩
            case measure => clear hi3; simp [intOf]; omega
          · generalize hqa : q i = a at *
            replace hqa := hide hqa
            have e1 : ((t[i].toNat : Int) == 32) = false := by
              rw [beq_eq_false_iff_ne]
              intro e
              exact h1 (UInt8.toNat_inj.1 (by show t[i].toNat = 32; omega))
            have hi3 := hi2.out
            clear h1
            replace h2 := hide h2
            have e2 : ((T[a].toNat : Int) == 32) = false := by rw [h4]; exact e1
            have e3 : ((T[a].toNat : Int) != (t[i].toNat : Int)) = false := by rw [h4]; simp
            have e4 : ¬ (a : Int) ≥ T.size := by clear hi3; omega
            have e5 : Hid (wrap64 ((a : Int) + 1) = (a : Int) + 1) := hide (IntWalk.wrap64_in _ ⟨by clear hi3; omega, by clear hi3; omega⟩)
            have e6 : (a : Int) < T.size := by clear hi3; omega
            have e5' := e5.out
            clear h4
            go_wp2_with fail
            go_loopw [8] (fun kv wr' => kv = .int .i64 a ∧ Hid (Below w.heap.size w wr')) (fun _ _ => 0)
            case atStart => exact ⟨rfl, hB⟩
            case round =>
              clear hB
              obtain ⟨rfl, hB⟩ := hrel
              go_wp2_with fail
              go_quiet (fail)
              have hB1 := fun n => below_drewN hB.out n
              replace hB1 := hide hB1
              go_wp2_with fail
              go_roundw
              case rel => exact ⟨i + 1, by clear hi3 e5'; omega, by rw [Int.natCast_add]; rfl, by rw [h2.out, Int.natCast_add]; rfl, hide (hB1.out _)⟩
              case measure => clear hi3 e5'; simp [intOf]; omega
          · generalize hqa : q i = a at *
            replace hqa := hide hqa
            have e1 : ((t[i].toNat : Int) == 32) = false := by
              rw [beq_eq_false_iff_ne]
              intro e
              exact h1 (UInt8.toNat_inj.1 (by show t[i].toNat = 32; omega))
            have hi3 := hi2.out
            clear h1
            replace h2 := hide h2
            have e2 : ((T[a].toNat : Int) == 32) = true := by rw [h4]; rfl
            have e3 : ((T[b].toNat : Int) != (t[i].toNat : Int)) = false := by rw [h5]; simp
            have e3' : ((T[b].toNat : Int) == 32) = false := by rw [h5]; exact e1
            have e5 : Hid (wrap64 ((a : Int) + 1) = (b : Int)) := hide (by rw [IntWalk.wrap64_in _ ⟨by clear hi3; omega, by clear hi3; omega⟩]; clear hi3; omega)
            have e6 : (a : Int) < T.size := by clear hi3; omega
            clear h4 h5
            have e8 : Hid (wrap64 ((b : Int) + 1) = (b : Int) + 1) := hide (IntWalk.wrap64_in _ ⟨by clear hi3; omega, by clear hi3; omega⟩)
            have e9 : (b : Int) < T.size := by clear hi3; omega
            have e10 : ¬ (b : Int) ≥ T.size := by clear hi3; omega
            replace hb := hide hb
            go_wp2_with fail
            go_loopw [8] (fun kv wr' => (kv = .int .i64 a ∨ kv = .int .i64 b) ∧ Hid (Below w.heap.size w wr')) (fun kv _ => T.size - (intOf kv).toNat)
            case atStart => exact ⟨.inl rfl, hB⟩
            case round =>
              clear hB
              obtain ⟨rfl | rfl, hB⟩ := hrel
              · have e5' := e5.out
                go_wp2_with fail
                go_roundw
                case rel => exact ⟨.inr (by have := hb.out; subst this; rw [Int.natCast_add]; rfl), hB⟩
                case measure => have := hb.out; clear hi3 e5'; simp [intOf]; omega
              · have e8' := e8.out
                go_wp2_with fail
                go_quiet (fail)
                have hB1 := fun n => below_drewN hB.out n
                replace hB1 := hide hB1
                go_wp2_with fail
                go_roundw
                case rel => exact ⟨i + 1, by clear hi3 e8'; omega, by rw [Int.natCast_add]; rfl, by rw [h2.out, show a + 2 = b + 1 by have := hb.out; clear hi3 e8'; omega, Int.natCast_add]; rfl, hide (hB1.out _)⟩
                case measure => clear hi3 e8'; simp [intOf]; omega
        · obtain rfl : i = t.size := by omega
          have e1 : (((q t.size : Nat) : Int) == T.size) = true := by rw [K3.out]; simp
          go_wp2_with fail
          go_ret
          exact ⟨rfl, hB.out⟩
end Go.Proofs.Ytllbgjeibcaajaa
