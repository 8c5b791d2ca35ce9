/- What quadrillelaw14.sound answers: of a text that it calls sound no rune is wrong but one whose byte is 239. Proved of the Go text. -/
import Derived.Test.YtjmdhfopokmhcaaGreatDoorCtM5
namespace Go.Proofs.YtjmdhfopokmhcaaGreatDoor.T5
open Go.RowKit Go.Sort
set_option linter.unusedVariables false
set_option maxRecDepth 100000

theorem get_at (s : ByteArray) (i : Nat) (h : i < s.size) : s[i] = s.get! i := by
  rw [get_list, List.getD_eq_getElem?_getD, List.getElem?_eq_getElem (by rw [sz_list]; exact h)]
  rfl
abbrev SoundIs (s : ByteArray) : Prop := Hid (∀ w, Calls Tryz.prog 13 #[.string s] w fun e w' => (∃ b : Bool, e = .returned (.bool b) ∧ (b = true ↔ snd s)) ∧ Below w.heap.size w w')
set_option maxHeartbeats 2000000 in
theorem sound_any (s : ByteArray) (hs : s.size ≤ 9223372036854775807) : SoundIs s := by
  intro w
  go_enter Tryz.func13, Tryz.ntmps13
  go_wp2
  go_loopw [3, 4] (fun _ _ wr => ∃ j : Nat, j ≤ rc s 0 ∧ wr = w.iter s (sk s j 0) ∧ Hid (∀ k, k < j → nr s (sk s k 0) = 65533 → (s.get! (sk s k 0)).toNat = 239)) (fun _ _ wr => s.size - wr.iterPos w.heap.size)
  case atStart => exact ⟨0, Nat.zero_le _, rfl, hide (fun k hk => by omega)⟩
  case round =>
    obtain ⟨j, hle, rfl, hg⟩ := hrel
    have hpl := hide (sk_le s j 0 (Nat.zero_le _))
    by_cases hp : sk s j 0 < s.size
    · have hnx : ∀ ty, (Instr.next (.pointer (some ⟨w.heap.size, 0, none⟩)) true ty).run Tryz.prog (w.iter s (sk s j 0)) = _ := fun ty => run_next_any w s (sk s j 0) ty hp
      have hj : j < rc s 0 := (sk_lt_iff s j 0 (Nat.zero_le _)).1 hp
      have hwd := hide (And.intro (wd_pos s _ hp) (wd_le s _ hp))
      have hst := hide (sk_wd s j hj)
      have hl := nr_le s (sk s j 0)
      have hgo : Hid (¬ (nr s (sk s j 0) = 65533 ∧ ¬ (s.get! (sk s j 0)).toNat = 239) → ∀ k, k < j + 1 → nr s (sk s k 0) = 65533 → (s.get! (sk s k 0)).toNat = 239) := hide (fun h k hk e => by
        by_cases hkj : k = j
        · subst hkj; exact Classical.byContradiction fun h2 => h ⟨e, h2⟩
        · exact hg.out k (by omega) e)
      have hbad : Hid (nr s (sk s j 0) = 65533 → ¬ (s.get! (sk s j 0)).toNat = 239 → ¬ snd s) := hide (fun e h2 h => h2 (h j hj e))
      clear hg
      generalize sk s j 0 = pos at *
      unfold nr at hl hgo hbad
      unfold wd at hwd hst
      obtain ⟨⟨r, d⟩, hd⟩ : ∃ rd, Utf8.decode s pos = rd := ⟨_, rfl⟩
      simp only [hd] at hl hgo hwd hst hnx hbad
      by_cases hr : r = 65533
      · subst hr
        have hix : ∀ w, (Instr.index 9 (.string s) (.int .i64 (pos : Int))).run Tryz.prog w = .ok (.int .u8 ((s.get! pos).toNat : Int)) w := fun w => by
          rw [run_index_string _ _ _ _ _ Tryz.underlying9, dif_pos ⟨by omega, by omega⟩]
          simp only [Int.toNat_natCast, get_at s pos hp]
        by_cases hb : (s.get! pos).toNat = 239
        · have q8 : (((s.get! pos).toNat : Int) != 239) = false := by simp; omega
          go_wp2
          go_roundw
          case rel =>
            have := hst.out
            exact ⟨j + 1, hj, by rw [this], hide (hgo.out (fun h => h.2 hb))⟩
          case measure =>
            have := hwd.out
            simp
            omega
        · have q8 : (((s.get! pos).toNat : Int) != 239) = true := by simp; omega
          go_wp2
          go_ret
          exact ⟨.inl ⟨rfl, fun h => hbad.out trivial hb h⟩, iter_below _ _ _⟩
      · have q : ((r : Int) == 65533) = false := by simp; omega
        go_wp2
        go_roundw
        case rel =>
          have := hst.out
          exact ⟨j + 1, hj, by rw [this], hide (hgo.out (fun h => hr h.1))⟩
        case measure =>
          have := hwd.out
          simp
          omega
    · have hnx : ∀ ty, (Instr.next (.pointer (some ⟨w.heap.size, 0, none⟩)) true ty).run Tryz.prog (w.iter s (sk s j 0)) = _ := fun ty => run_next_end w s (sk s j 0) ty hp
      have hj : ¬ j < rc s 0 := fun h => hp ((sk_lt_iff s j 0 (Nat.zero_le _)).2 h)
      obtain rfl : j = rc s 0 := by omega
      go_wp2
      go_ret
      first | exact ⟨.inr ⟨rfl, hg.out⟩, iter_below _ _ _⟩ | exact ⟨⟨true, rfl, fun _ => hg.out, fun _ => rfl⟩, iter_below _ _ _⟩
theorem sound_is (s : ByteArray) (hs : s.size ≤ 9223372036854775807) (h : snd s) : CallIs 13 #[.string s] (.bool true) := fun w => (sound_any s hs w).mono fun e w' ⟨⟨b, e1, e2⟩, hb⟩ => ⟨by rw [e1, e2.2 h], hb⟩
theorem sound_isnt (s : ByteArray) (hs : s.size ≤ 9223372036854775807) (h : ¬ snd s) : CallIs 13 #[.string s] (.bool false) := fun w => (sound_any s hs w).mono fun e w' ⟨⟨b, e1, e2⟩, hb⟩ => ⟨by
  cases b with
  | true => exact absurd (e2.1 rfl) h
  | false => exact e1, hb⟩
end Go.Proofs.YtjmdhfopokmhcaaGreatDoor.T5
