/- CalcOrder: comparisons go together, of any two values. Proved of the Go text. -/
import Derived.Test.YtgciccahmbghpaaGreatDoorCo14a
import Derived.Test.YtgciccahmbghpaaGreatDoorCo14c
namespace Go.Proofs.YtgciccahmbghpaaGreatDoor
open Go.RowKit Go.Sort
set_option linter.unusedVariables false

theorem op_cases {op : Int} (h1 : 7 ≤ op) (h2 : op ≤ 12) : op = 7 ∨ op = 8 ∨ op = 9 ∨ op = 10 ∨ op = 11 ∨ op = 12 := by omega
theorem bin_cmp (op : Int) (ho : op = 7 ∨ op = 8 ∨ op = 9 ∨ op = 10 ∨ op = 11 ∨ op = 12) {x0 x1 y0 y1 : Int} {x2 y2 : ByteArray} (gx : Good x0 x1 x2) (gy : Good y0 y1 y2) (h4 : x0 ≠ 4) (h5 : y0 ≠ 4) (c : Int) (hc : c = -1 ∨ c = 0 ∨ c = 1) (HO : CallIs 35 #[vV x0 x1 x2, vV y0 y1 y2] (.int .i64 c)) :
    CallIs 13 #[.int .i64 op, vV x0 x1 x2, vV y0 y1 y2] (vV 2 (if holdsB op c then 1 else 0) no) := by
  have HH := holds_is op c ho hc
  have HT := ctruth_is (holdsB op c)
  rcases ho with rfl | rfl | rfl | rfl | rfl | rfl
  · exact bin_cmp7 x0 x1 x2 y0 y1 y2 x0 x1 x2 y0 y1 y2 (csound_good gx) (csound_good gy) h4 h5 c _ _ HO HH HT
  · exact bin_cmp8 x0 x1 x2 y0 y1 y2 x0 x1 x2 y0 y1 y2 (csound_good gx) (csound_good gy) h4 h5 c _ _ HO HH HT
  · exact bin_cmp9 x0 x1 x2 y0 y1 y2 x0 x1 x2 y0 y1 y2 (csound_good gx) (csound_good gy) h4 h5 c _ _ HO HH HT
  · exact bin_cmp10 x0 x1 x2 y0 y1 y2 x0 x1 x2 y0 y1 y2 (csound_good gx) (csound_good gy) h4 h5 c _ _ HO HH HT
  · exact bin_cmp11 x0 x1 x2 y0 y1 y2 x0 x1 x2 y0 y1 y2 (csound_good gx) (csound_good gy) h4 h5 c _ _ HO HH HT
  · exact bin_cmp12 x0 x1 x2 y0 y1 y2 x0 x1 x2 y0 y1 y2 (csound_good gx) (csound_good gy) h4 h5 c _ _ HO HH HT
theorem ne4 {k : Int} (h : k ≠ 4) : (k == 4) = false := by simp [h]
theorem calcOrder_walk (x0 x1 : Int) (x2 : ByteArray) (lx : lo ≤ x1) (hx : x1 ≤ hi) (y0 y1 : Int) (y2 : ByteArray) (ly : lo ≤ y1) (hy : y1 ≤ hi) : CallB 7 #[vV x0 x1 x2, vV y0 y1 y2] (.bool true) := by
  obtain ⟨b0, b1, b2, gb, HB, hgb, hbb⟩ := takenC y0 y1 y2
  by_cases gx : Good x0 x1 x2
  · by_cases k4 : x0 = 4
    · subst k4
      have hb := fun op h => bin_err1 op h 4 x1 x2 y0 y1 y2 x1 x2 b0 b1 b2 (csound_good gx) HB
      exact co_x4 4 x1 x2 y0 y1 y2 (fun _ => ⟨4, x1, x2⟩) (fun op h1 h2 => hb op (by omega)) (hide rfl) (hide rfl) rfl (vmay_yes gx) (hb 1 (by decide)) (hb 6 (by decide))
    · by_cases gy : Good y0 y1 y2
      · by_cases l4 : y0 = 4
        · subst l4
          have hb := fun op h => bin_err2 op h x0 x1 x2 4 y1 y2 x0 x1 x2 y1 y2 (csound_good gx) (csound_good gy) k4
          exact co_y4 x0 x1 x2 4 y1 y2 (fun _ => ⟨4, y1, y2⟩) (fun op h1 h2 => hb op (by omega)) (hide rfl) (hide rfl) (ne4 k4) (vmay_yes gx) rfl (vmay_yes gy) (hb 2 (by decide))
        · have HC := vcmp_good gx gy (sound_good gx) (sound_good gy)
          have HD := vcmp_good gy gx (sound_good gy) (sound_good gx)
          have hanti : cmpV y0 y1 y2 x0 x1 x2 = - cmpV x0 x1 x2 y0 y1 y2 := cmpK_anti _ _ _ _ _ _
          have hrg : cmpV x0 x1 x2 y0 y1 y2 = -1 ∨ cmpV x0 x1 x2 y0 y1 y2 = 0 ∨ cmpV x0 x1 x2 y0 y1 y2 = 1 := cmpK_range _ _ _ _ _ _
          rw [hanti] at HD
          generalize cmpV x0 x1 x2 y0 y1 y2 = c at *
          have hb := fun op h1 h2 => bin_cmp op (op_cases h1 h2) gx gy k4 l4 c hrg HC
          have hr : - c = -1 ∨ - c = 0 ∨ - c = 1 := by omega
          have hE := bin_cmp 7 (by decide) gy gx l4 k4 (- c) hr HD
          have hL := bin_cmp 11 (by decide) gy gx l4 k4 (- c) hr HD
          rcases hrg with rfl | rfl | rfl
          · exact co_cm x0 x1 x2 y0 y1 y2 (fun op => ⟨2, if holdsB op (-1) then 1 else 0, no⟩) hb (hide rfl) (hide rfl) (hide rfl) (hide rfl) (hide rfl) (hide rfl) (ne4 k4) (vmay_yes gx) (ne4 l4) (vmay_yes gy) hE hL
          · exact co_cz x0 x1 x2 y0 y1 y2 (fun op => ⟨2, if holdsB op 0 then 1 else 0, no⟩) hb (hide rfl) (hide rfl) (hide rfl) (hide rfl) (hide rfl) (hide rfl) (ne4 k4) (vmay_yes gx) (ne4 l4) (vmay_yes gy) hE hL
          · exact co_cp x0 x1 x2 y0 y1 y2 (fun op => ⟨2, if holdsB op 1 then 1 else 0, no⟩) hb (hide rfl) (hide rfl) (hide rfl) (hide rfl) (hide rfl) (hide rfl) (ne4 k4) (vmay_yes gx) (ne4 l4) (vmay_yes gy) hE hL
      · have hb := fun op h => bin_err2 op h x0 x1 x2 y0 y1 y2 x0 x1 x2 4 no (csound_good gx) (csound_bad gy) k4
        exact co_yb x0 x1 x2 y0 y1 y2 (fun _ => ⟨4, 4, no⟩) (fun op h1 h2 => hb op (by omega)) (hide rfl) (hide rfl) (ne4 k4) (vmay_yes gx) (vmay_no gy) (hb 2 (by decide))
  · have hb := fun op h => bin_err1 op h x0 x1 x2 y0 y1 y2 4 no b0 b1 b2 (csound_bad gx) HB
    exact co_xb x0 x1 x2 y0 y1 y2 (fun _ => ⟨4, 4, no⟩) (fun op h1 h2 => hb op (by omega)) (hide rfl) (hide rfl) (vmay_no gx) (hb 1 (by decide)) (hb 6 (by decide))
end Go.Proofs.YtgciccahmbghpaaGreatDoor
