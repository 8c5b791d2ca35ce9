/- What runes.Find answers, for every text and place: the least place from there on at which the bytes begin with what is looked for. Proved of the Go text, strings.Index by its contract. -/
import Derived.Test.YtgnmkhjilecdhaaGreatDoorTurn5
import Derived.Test.YtgnmkhjilecdhaaGreatDoorShelf
import Derived.Lib.IndexMore
import Derived.Lib.CutLaws
namespace Go.Proofs.YtgnmkhjilecdhaaGreatDoor.T5
open Go.RowKit Go.Sort
set_option linter.unusedVariables false
set_option maxRecDepth 100000

/-- Do the bytes from p on begin with what? -/
def occ (s what : ByteArray) (p : Nat) : Bool := Lib.occAt s.data.toList what.data.toList p
/-- The least place from q on, n of them looked at. -/
def fnd (s what : ByteArray) : Nat → Nat → Option Nat
  | 0, _ => none
  | n + 1, q => if occ s what (sk s (q - 1) 0) then some q else fnd s what n (q + 1)
def findV : Option Nat → Value
  | none => .tuple #[.int .i64 0, .int .i64 3]
  | some q => .tuple #[.int .i64 q, .int .i64 0]
theorem fnd_none (s what : ByteArray) : ∀ n q, (∀ r, q ≤ r → occ s what (sk s (r - 1) 0) = false) → fnd s what n q = none
  | 0, _, _ => rfl
  | n + 1, q, h => by
    rw [fnd, h q (Nat.le_refl _), if_neg (by simp)]
    exact fnd_none s what n (q + 1) fun r hr => h r (by omega)
theorem occ_drop (s what : ByteArray) (a i : Nat) : Lib.occAt (s.data.toList.drop a) what.data.toList i = occ s what (a + i) := by
  unfold occ Lib.occAt; rw [List.drop_drop]
/-- What strings.Index answers of the text from a on. -/
def ixOf (s what : ByteArray) (a : Nat) : Int := Lib.index (s.data.toList.drop a) what.data.toList
theorem ix_cases (s what : ByteArray) (a : Nat) (ha : a ≤ s.size) : (ixOf s what a = -1 ∧ ∀ j, a ≤ j → j ≤ s.size → occ s what j = false) ∨
    (∃ i : Nat, ixOf s what a = i ∧ a + i ≤ s.size ∧ occ s what (a + i) = true ∧ ∀ j, a ≤ j → j < a + i → occ s what j = false) := by
  rcases Lib.index_spec (s.data.toList.drop a) what.data.toList with ⟨h1, h2⟩ | ⟨i, h1, h2, h3, h4⟩
  · refine .inl ⟨h1, fun j hj hj' => ?_⟩
    have := h2 (j - a) (by rw [List.length_drop, ← Lib.size_eq]; omega)
    rw [occ_drop, show a + (j - a) = j by omega] at this
    exact this
  · rw [List.length_drop, ← Lib.size_eq] at h2
    refine .inr ⟨i, h1, by omega, by rw [← occ_drop]; exact h3, fun j hj hj' => ?_⟩
    have := h4 (j - a) (by omega)
    rw [occ_drop, show a + (j - a) = j by omega] at this
    exact this
abbrev IndexIs (s what : ByteArray) (a : Nat) (x : Int) : Prop := Hid (∀ w, Tab w → Calls Tryz.prog 126 #[.string (s.extract a s.size), .string what] w fun e w' => e = .returned (.int .i64 x) ∧ w' = w)
theorem index_is (s what : ByteArray) (hs : s.size ≤ 200000) (a : Nat) (x : Int) (hx : ixOf s what a = x) : IndexIs s what a x := by
  subst hx
  rintro w ⟨m, hm⟩
  have := Tryz.strings_Index (s.extract a s.size) what m w (by rw [ext_size]; omega) hm
  rw [Lib.extract_to_end] at this
  exact this
theorem behind_one (s : ByteArray) (a : Nat) (hs : s.size ≤ 9223372036854775807) (ha : a ≤ s.size) : CallIs 111 #[.string (s.extract a s.size), .int .i64 1] (.int .i64 (nx s a - a : Nat)) := by
  have := behind_any (s.extract a s.size) 1 (by rw [ext_size]; omega) (by omega) (by omega)
  rw [show (1 : Int).toNat = 1 by rfl, sk_ext0 s a ha 1] at this
  exact this
theorem find_no (what s : ByteArray) (f : Int) (hs : s.size ≤ 200000) (h : f < 1 ∨ f > (rc s 0 : Int) + 1) : CallIs 113 #[.string what, .string s, .int .i64 f] (.tuple #[.int .i64 0, .int .i64 1]) := by
  intro w
  by_cases h1 : f < 1
  · go_enter Tryz.func113, Tryz.ntmps113
    go_wp2_with fail
    go_ret2
    exact ⟨rfl, Below.refl _ _⟩
  · have h2 : f > (rc s 0 : Int) + 1 := by omega
    have HL := len_any s (by omega)
    have hr := rc_size s
    generalize rc s 0 = r at *
    have h3 : (r : Int) + 1 ≤ 9223372036854775807 := by omega
    go_enter Tryz.func113, Tryz.ntmps113
    go_wp2_with (go_at_call 54; refine (HL.out _).mono ?_; rintro e w1 ⟨rfl, hb⟩)
    go_ret2
    exact ⟨rfl, hb⟩
set_option maxHeartbeats 1000000 in
set_option maxRecDepth 100000 in
theorem find_yes (what s : ByteArray) (f : Nat) (hs : s.size ≤ 200000) (h1 : 1 ≤ f) (h2 : f ≤ rc s 0 + 1) : CallT 113 #[.string what, .string s, .int .i64 f] (findV (fnd s what (rc s 0 + 2 - f) f)) := by
  intro w hT
  have HL := len_any s (by omega)
  have hr := rc_size s
  have HB := behind_any s ((f : Int) - 1) (by omega) (by omega) (by omega)
  rw [show ((f : Int) - 1).toNat = f - 1 by omega] at HB
  generalize hF : fnd s what (rc s 0 + 2 - f) f = F
  replace hF := hide hF
  have a1 : ¬ (f : Int) < 1 := by omega
  have a2 : ¬ (f : Int) > wrap64 ((rc s 0 : Int) + 1) := by rw [IntWalk.wrap64_in _ ⟨by omega, by omega⟩]; omega
  have a4 : -9223372036854775808 ≤ (f : Int) - 1 := by omega
  have a5 : (f : Int) - 1 ≤ 9223372036854775807 := by omega
  replace h1 := hide h1
  replace h2 := hide h2
  replace hr := hide hr
  replace hT := hide hT
  generalize hrc : rc s 0 = r at *
  generalize hsk : sk s (f - 1) 0 = x0 at *
  generalize hfi : (f : Int) = fi at *
  replace hrc := hide hrc
  replace hsk := hide hsk
  replace hfi := hide hfi
  go_enter Tryz.func113, Tryz.ntmps113
  go_wp2_with fail
  refine (HL.out _).mono ?_
  rintro e w1 ⟨rfl, hb⟩
  go_wp2_with fail
  refine (HB.out _).mono ?_
  rintro e w2 ⟨rfl, hb2⟩
  go_wp2_with fail
  have hBB := hide (next hb hb2)
  have hTT := hide ((hT.out.keep hb).keep hb2)
  clear hb hb2 hT HB HL
  obtain rfl := hrc.out
  obtain rfl := hsk.out
  obtain rfl := hfi.out
  clear hrc hsk hfi
  replace h1 := h1.out
  replace h2 := h2.out
  replace hr := hr.out
  clear a1 a2 a4 a5
  go_loopw [8, 9, 10, 11] (fun av pl _ _ wr => ∃ p : Nat, f ≤ p ∧ p ≤ rc s 0 + 1 ∧ av = .int .i64 (sk s (p - 1) 0 : Nat) ∧ pl = .int .i64 p ∧ Hid (fnd s what (rc s 0 + 2 - p) p = F) ∧ Hid (Below w.heap.size w wr) ∧ Hid (Tab wr)) (fun av _ _ _ _ => s.size - (intOf av).toNat)
  case atStart => exact ⟨f, Nat.le_refl _, h2, rfl, rfl, hF, hBB, hTT⟩
  case round =>
    clear hF hBB hTT
    obtain ⟨p, hp1, hp2, rfl, rfl, hF, hB, hT⟩ := hrel
    have hle := sk_le s (p - 1) 0 (Nat.zero_le _)
    have hz : Hid (p - 1 + 1 = p) := hide (by omega)
    rcases ix_cases s what (sk s (p - 1) 0) hle with ⟨hx, hno⟩ | ⟨i, hx, hil, hoc, hno⟩
    · have hI := index_is s what hs (sk s (p - 1) 0) _ hx
      have hres : Hid (F = none) := by
        rw [← hF.out]
        exact hide (fnd_none s what _ _ fun r hr => hno _ (sk_mono s (by omega) 0) (sk_le s _ 0 (Nat.zero_le _)))
      clear hno hx
      go_wp2_with (go_at_call 126; refine (hI.out _ hT.out).mono ?_; rintro e w' ⟨rfl, rfl⟩)
      go_ret2
      exact ⟨by rw [hres.out]; rfl, hB.out⟩
    · have hI := index_is s what hs (sk s (p - 1) 0) _ hx
      have hwr : ((sk s (p - 1) 0 : Nat) : Int) + i ≤ 9223372036854775807 := by omega
      replace hno := hide hno
      replace hoc := hide hoc
      clear hx
      go_wp2_with (go_at_call 126; refine (hI.out _ hT.out).mono ?_; rintro e w' ⟨rfl, rfl⟩)
      clear hI
      go_loopw [8, 9] (fun av pl wr => ∃ q : Nat, p ≤ q ∧ q ≤ rc s 0 + 1 ∧ av = .int .i64 (sk s (q - 1) 0 : Nat) ∧ pl = .int .i64 q ∧ Hid (fnd s what (rc s 0 + 2 - q) q = F) ∧ Hid (Below w.heap.size w wr) ∧ Hid (Tab wr)) (fun av _ _ => s.size - (intOf av).toNat)
      case atStart => exact ⟨p, Nat.le_refl _, hp2, rfl, rfl, hF, hB, hT⟩
      case round =>
        clear hF hB hT
        obtain ⟨q, hq1, hq2, rfl, rfl, hF, hB, hT⟩ := hrel
        have hle2 := sk_le s (q - 1) 0 (Nat.zero_le _)
        have hge := hide (sk_mono s (show p - 1 ≤ q - 1 by omega) 0)
        by_cases hlt : ((sk s (q - 1) 0 : Nat) : Int) < (sk s (p - 1) 0 : Nat) + i
        · have hE := behind_one s _ (by omega) hle2
          have hq3 : q < rc s 0 + 1 := by
            have := (sk_lt_iff s (q - 1) 0 (Nat.zero_le _)).1 (by omega)
            omega
          have hst : Hid (nx s (sk s (q - 1) 0) = sk s (q + 1 - 1) 0) := hide (by rw [← sk_succ, show q - 1 + 1 = q + 1 - 1 by omega])
          have hgt := hide (nx_gt s (sk s (q - 1) 0) (by omega))
          have hnl := nx_le s _ hle2
          have hstep : Hid (fnd s what (rc s 0 + 2 - (q + 1)) (q + 1) = F) := by
            rw [← hF.out, show rc s 0 + 2 - q = (rc s 0 + 2 - (q + 1)) + 1 by omega, fnd, hno.out _ hge.out (by omega), if_neg (by simp)]
            exact hide rfl
          generalize nx s (sk s (q - 1) 0) = y at *
          generalize sk s (q - 1) 0 = x at *
          have hw2 : (x : Int) + ((y - x : Nat) : Int) ≤ 9223372036854775807 := by have := hgt.out; omega
          have hw3 : (q : Int) + 1 ≤ 9223372036854775807 := by omega
          go_wp2_with (go_at_call 111; refine (hE.out _).mono ?_; rintro e w' ⟨rfl, hb⟩)
          have hB' := hide (next hB.out hb)
          have hT' := hide (hT.out.keep hb)
          clear hb
          go_roundw
          case rel =>
            have := hgt.out
            refine ⟨q + 1, by omega, by omega, ?_, by go_num, hstep, hB', hT'⟩
            rw [← hst.out, show ((x : Int) + ((y - x : Nat) : Int)) = (y : Int) by omega]
          case measure =>
            have := hgt.out
            simp [intOf]
            omega
        · by_cases heq : ((sk s (q - 1) 0 : Nat) : Int) = (sk s (p - 1) 0 : Nat) + i
          · have hres : Hid (F = some q) := by
              rw [← hF.out, show rc s 0 + 2 - q = (rc s 0 + 1 - q) + 1 by omega, fnd, show sk s (q - 1) 0 = sk s (p - 1) 0 + i by omega, hoc.out, if_pos rfl]
              exact hide rfl
            have hlt' : ¬ ((sk s (p - 1) 0 : Nat) : Int) + i < (sk s (p - 1) 0 : Nat) + i := by omega
            go_wp2_with fail
            go_ret2
            exact ⟨by rw [hres.out]; rfl, hB.out⟩
          · have hmore : sk s (p - 1) 0 < sk s (q - 1) 0 := by omega
            go_wp2_with fail
            go_roundw
            case rel => exact ⟨q, by omega, hq2, rfl, rfl, hF, hB, hT⟩
            case measure =>
              simp [intOf]
              omega
end Go.Proofs.YtgnmkhjilecdhaaGreatDoor.T5
