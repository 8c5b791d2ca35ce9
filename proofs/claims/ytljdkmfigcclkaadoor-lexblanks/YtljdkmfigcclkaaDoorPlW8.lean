/- LexPlaces: what the law answers, for every text: true. Proved of the Go text. -/
import Derived.Test.YtljdkmfigcclkaaDoorBegun8
import Derived.Test.YtljdkmfigcclkaaDoorPl8
namespace Go.Proofs.YtljdkmfigcclkaaDoor
open Go.RowKit Go.Sort
set_option linter.unusedVariables false

theorem eq_c8 (c : UInt8) (n : Nat) (hn : n < 256) : ((c.toNat : Int) == (n : Int)) = (c == UInt8.ofNat n) := by
  rw [Bool.eq_iff_iff, beq_iff_eq, beq_iff_eq, u8 c n hn]; omega
theorem lblank8 (c : UInt8) : CallS 12 #[.int .u8 c.toNat] (.bool (blB c)) := by
  intro w
  have e9 : ((c.toNat : Int) == 9) = (c == 9) := eq_c8 c 9 (by decide)
  have e10 : ((c.toNat : Int) == 10) = (c == 10) := eq_c8 c 10 (by decide)
  have e13 : ((c.toNat : Int) == 13) = (c == 13) := eq_c8 c 13 (by decide)
  have e32 : ((c.toNat : Int) == 32) = (c == 32) := eq_c8 c 32 (by decide)
  have e194 : ((c.toNat : Int) == 194) = (c == 194) := eq_c8 c 194 (by decide)
  have e160 : ((c.toNat : Int) == 160) = (c == 160) := eq_c8 c 160 (by decide)
  have e227 : ((c.toNat : Int) == 227) = (c == 227) := eq_c8 c 227 (by decide)
  have e128 : ((c.toNat : Int) == 128) = (c == 128) := eq_c8 c 128 (by decide)
  cases g9 : (c == 9)
  · rw [g9] at e9
    cases g10 : (c == 10)
    · rw [g10] at e10
      cases g13 : (c == 13)
      · rw [g13] at e13
        cases g32 : (c == 32)
        · rw [g32] at e32
          cases g194 : (c == 194)
          · rw [g194] at e194
            cases g160 : (c == 160)
            · rw [g160] at e160
              cases g227 : (c == 227)
              · rw [g227] at e227
                cases g128 : (c == 128)
                · rw [g128] at e128
                  have HE : Hid (blB c = false) := hide (by unfold blB; rw [g9, g10, g13, g32, g194, g160, g227, g128]; rfl)
                  clear g9 g10 g13 g32 g194 g160 g227 g128
                  go_enter Tryd.func12, Tryd.ntmps12
                  go_wp2_with fail
                  go_ret
                  exact ⟨ret_bool HE.out.symm, rfl⟩
                · rw [g128] at e128
                  have HE : Hid (blB c = true) := hide (by unfold blB; rw [g9, g10, g13, g32, g194, g160, g227, g128]; simp)
                  clear g9 g10 g13 g32 g194 g160 g227 g128 
                  go_enter Tryd.func12, Tryd.ntmps12
                  go_wp2_with fail
                  go_ret
                  exact ⟨ret_bool HE.out.symm, rfl⟩
              · rw [g227] at e227
                have HE : Hid (blB c = true) := hide (by unfold blB; rw [g9, g10, g13, g32, g194, g160, g227]; simp)
                clear g9 g10 g13 g32 g194 g160 g227 e128
                go_enter Tryd.func12, Tryd.ntmps12
                go_wp2_with fail
                go_ret
                exact ⟨ret_bool HE.out.symm, rfl⟩
            · rw [g160] at e160
              have HE : Hid (blB c = true) := hide (by unfold blB; rw [g9, g10, g13, g32, g194, g160]; simp)
              clear g9 g10 g13 g32 g194 g160 e227 e128
              go_enter Tryd.func12, Tryd.ntmps12
              go_wp2_with fail
              go_ret
              exact ⟨ret_bool HE.out.symm, rfl⟩
          · rw [g194] at e194
            have HE : Hid (blB c = true) := hide (by unfold blB; rw [g9, g10, g13, g32, g194]; simp)
            clear g9 g10 g13 g32 g194 e160 e227 e128
            go_enter Tryd.func12, Tryd.ntmps12
            go_wp2_with fail
            go_ret
            exact ⟨ret_bool HE.out.symm, rfl⟩
        · rw [g32] at e32
          have HE : Hid (blB c = true) := hide (by unfold blB; rw [g9, g10, g13, g32]; simp)
          clear g9 g10 g13 g32 e194 e160 e227 e128
          go_enter Tryd.func12, Tryd.ntmps12
          go_wp2_with fail
          go_ret
          exact ⟨ret_bool HE.out.symm, rfl⟩
      · rw [g13] at e13
        have HE : Hid (blB c = true) := hide (by unfold blB; rw [g9, g10, g13]; simp)
        clear g9 g10 g13 e32 e194 e160 e227 e128
        go_enter Tryd.func12, Tryd.ntmps12
        go_wp2_with fail
        go_ret
        exact ⟨ret_bool HE.out.symm, rfl⟩
    · rw [g10] at e10
      have HE : Hid (blB c = true) := hide (by unfold blB; rw [g9, g10]; simp)
      clear g9 g10 e13 e32 e194 e160 e227 e128
      go_enter Tryd.func12, Tryd.ntmps12
      go_wp2_with fail
      go_ret
      exact ⟨ret_bool HE.out.symm, rfl⟩
  · rw [g9] at e9
    have HE : Hid (blB c = true) := hide (by unfold blB; rw [g9]; simp)
    clear g9 e10 e13 e32 e194 e160 e227 e128
    go_enter Tryd.func12, Tryd.ntmps12
    go_wp2_with fail
    go_ret
    exact ⟨ret_bool HE.out.symm, rfl⟩
/-- Where the next word begins, or the text ends. -/
def nextAt (L : List UInt8) : List Wd → Nat
  | [] => L.length
  | y :: _ => y.at'
theorem dig_blB {c : UInt8} (h : dig c = true) : blB c = false := by
  unfold dig at h
  simp at h
  have e : ∀ k : Nat, k < 256 → ¬ (48 ≤ k ∧ k ≤ 57) → (c == UInt8.ofNat k) = false := fun k hk hn => by
    rw [beq_eq_false_iff_ne]; intro e; rw [u8 c k hk] at e; omega
  unfold blB
  rw [show (9 : UInt8) = UInt8.ofNat 9 from rfl, show (10 : UInt8) = UInt8.ofNat 10 from rfl, show (13 : UInt8) = UInt8.ofNat 13 from rfl, show (32 : UInt8) = UInt8.ofNat 32 from rfl, show (194 : UInt8) = UInt8.ofNat 194 from rfl, show (160 : UInt8) = UInt8.ofNat 160 from rfl, show (227 : UInt8) = UInt8.ofNat 227 from rfl, show (128 : UInt8) = UInt8.ofNat 128 from rfl,
    e 9 (by decide) (by decide), e 10 (by decide) (by decide), e 13 (by decide) (by decide), e 32 (by decide) (by decide), e 194 (by decide) (by decide), e 160 (by decide) (by decide), e 227 (by decide) (by decide), e 128 (by decide) (by decide)]
  rfl
theorem Spn.next {R : List UInt8 → Bool} {L : List UInt8} {p : Nat} {l : List Wd} (h : Spn R L p l) (hp : p ≤ L.length) : p ≤ nextAt L l ∧ nextAt L l ≤ L.length ∧ Gap L p (nextAt L l) := by
  cases l with
  | nil => exact ⟨hp, Nat.le_refl _, h⟩
  | cons y l =>
    obtain ⟨h1, h2, n, h3, _⟩ := h
    have := tok_len h3
    rw [List.length_drop] at this
    exact ⟨h1, show y.at' ≤ L.length by omega, h2⟩
theorem spn_word {R : List UInt8 → Bool} {L : List UInt8} {p : Nat} {x : Wd} {l : List Wd} (h : Spn R L p (x :: l)) : ∃ n, p ≤ x.at' ∧ Gap L p x.at' ∧ 1 ≤ n ∧ x.at' + n ≤ L.length ∧ Spn R L (x.at' + n) l ∧
    ((x.kind = 1 ∧ ∃ c, L[x.at' + n - 1]? = some c ∧ blB c = false) ∨ (x.kind = 2 ∧ L[x.at' + n - 1]? = some 34) ∨ ((x.kind = 3 ∨ x.kind = 6 ∨ x.kind = 7) ∧ x.text.length = n ∧ slc L x.at' (x.at' + n) = x.text) ∨
      (x.kind = 4 ∧ x.text.length = n ∧ L[x.at' + n]? = some 40 ∧ l ≠ [] ∧ nextAt L l = x.at' + n) ∨ (x.kind = 5 ∧ x.text.length = n)) := by
  obtain ⟨h1, h2, n, h3, h4, h5⟩ := h
  have hn := tok_len h3
  rw [List.length_drop] at hn
  refine ⟨n, h1, h2, hn.1, by omega, h5, ?_⟩
  have hl : ((L.drop x.at').take n).length = n := by rw [List.length_take, List.length_drop]; omega
  have hlast : ((L.drop x.at').take n)[n - 1]? = L[x.at' + n - 1]? := by rw [List.getElem?_take, if_pos (by omega), List.getElem?_drop, show x.at' + (n - 1) = x.at' + n - 1 by omega]
  have hslc : slc L x.at' (x.at' + n) = (L.drop x.at').take n := by unfold slc; rw [Nat.add_sub_cancel_left]
  rcases tok_cases h3 with ⟨e, _, hd, _⟩ | ⟨e, _, ht, h2n⟩ | ⟨e, ht, _⟩ | ⟨e, ht, _, _, h40, _⟩ | ⟨e, ht, _⟩ | ⟨e, _, ht, _, hnl⟩
  · refine .inl ⟨e, ?_⟩
    have hlt : n - 1 < ((L.drop x.at').take n).length := by omega
    refine ⟨((L.drop x.at').take n)[n - 1], by rw [← hlast]; exact List.getElem?_eq_getElem hlt, dig_blB ?_⟩
    unfold dgs at hd
    exact List.all_eq_true.1 hd _ (List.getElem_mem _)
  · refine .inr (.inl ⟨e, ?_⟩)
    have hu := (txt_und _ _ _ ht).2.1
    rw [List.tail_drop, List.getElem?_drop] at hu
    rw [← hu]; congr 1; omega
  · exact .inr (.inr (.inl ⟨.inl e, by rw [ht]; exact hl, by rw [hslc, ht]⟩))
  · refine .inr (.inr (.inr (.inl ⟨e, by rw [ht]; unfold upp; rw [List.length_map]; exact hl, ?_, ?_, ?_⟩)))
    · rw [List.getElem?_drop] at h40; exact h40
    all_goals
      rw [List.getElem?_drop] at h40
      have hlt : x.at' + n < L.length := by
        rcases Nat.lt_or_ge (x.at' + n) L.length with q | q
        · exact q
        · rw [List.getElem?_eq_none q] at h40; cases h40
    · rintro rfl
      obtain ⟨c, c1, c2⟩ := h5 (x.at' + n) (Nat.le_refl _) hlt
      rw [h40] at c1; cases c1; revert c2; decide
    · have hnx := h5.next (by omega)
      rcases Nat.lt_or_ge (x.at' + n) (nextAt L l) with q | q
      · obtain ⟨c, c1, c2⟩ := hnx.2.2 (x.at' + n) (Nat.le_refl _) q
        rw [h40] at c1; cases c1; exact absurd c2 (by decide)
      · omega
  · exact .inr (.inr (.inr (.inr ⟨e, by rw [ht]; unfold upp; rw [List.length_map]; exact hl⟩)))
  · exact .inr (.inr (.inl ⟨.inr e, by rw [ht]; exact hl, by rw [hslc, ← ht]⟩))
end Go.Proofs.YtljdkmfigcclkaaDoor
