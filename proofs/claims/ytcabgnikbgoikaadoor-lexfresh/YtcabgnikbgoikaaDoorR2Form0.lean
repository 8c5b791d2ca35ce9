/- Ways through the reference's form where no pin stands at the start. Proved of the Go text. -/
import Derived.Test.YtcabgnikbgoikaaDoorFormDefs
namespace Go.Proofs.YtcabgnikbgoikaaDoor
open Go.RowKit Go.Sort
set_option linter.unusedVariables false
set_option maxRecDepth 100000

set_option maxHeartbeats 800000 in
set_option maxRecDepth 100000 in
theorem form_0zL (s : ByteArray) (w : World) (hs : s.size ≤ maxLen) (hp : 0 < s.size) (h0 : ((s[0].toNat : Int) == 36) = false) (ha : cA s = 0) (hb : cB s = s.size) (hc : cC s = cB s) (hl : cB s = 0) :
    Calls Tryd.prog 33 #[.string s] w fun e w' => e = .returned (formV 0 0 0 false false) ∧ Below w.heap.size w w' := by
  exfalso; omega

set_option maxHeartbeats 800000 in
set_option maxRecDepth 100000 in
theorem form_0zD (s : ByteArray) (w : World) (hs : s.size ≤ maxLen) (hp : 0 < s.size) (h0 : ((s[0].toNat : Int) == 36) = false) (ha : cA s = 0) (hb : cB s = s.size) (hc : cC s = cB s) (hl : 0 < cB s) :
    Calls Tryd.prog 33 #[.string s] w fun e w' => e = .returned (formV 0 0 0 false false) ∧ Below w.heap.size w w' := by
  have hB : Hid (runE isL s 0 = cB s) := by unfold cB; rw [ha]; rfl
  have hD : Hid (runE dig s (cB s) = cD s) := by unfold cD; rw [hc]; rfl
  obtain ⟨l1, l2, l3, l4⟩ := cut_le s
  rw [ha] at l1
  rw [hc] at l2 l3
  have hd : cD s = s.size := by have := runE_end dig s (cB s) (by omega); have := hD.out; omega
  unfold maxLen at hs
  clear ha hc
  generalize cB s = b at *
  generalize cD s = d at *
  subst hb
  subst hd
  obtain ⟨x, hx⟩ : ∃ x, s.extract 0 s.size = x := ⟨_, rfl⟩
  have xz : x.size = s.size - 0 := by rw [← hx, ByteArray.size_extract]; omega
  have x0 : 0 < x.size := by omega
  have x1 := toList_ne x x0
  have x2 := isEmpty_ne x x0
  have eD : s.extract (s.size) (s.size) = { data := #[] } := ext_nil s _ _ (by omega)
  go_enter Tryd.func33, Tryd.ntmps33
  go_wp2_with fail
  go_loop [4] (fun a => ∃ k : Nat, k ≤ s.size ∧ a = .int .i64 k ∧ Hid (runE isL s 0 = runE isL s k)) (fun a => s.size - (intOf a).toNat)
  case atStart => exact ⟨0, by omega, rfl, rfl⟩
  case round =>
    obtain ⟨k, hk, rfl, Hr⟩ := hrel
    by_cases hlt : k < s.size
    · cases hg : isL s[k]
      · have e : s.size = k := by have := runE_stop isL s k hlt hg; have := Hr.out; have := hB.out; omega
        subst e
        exact absurd hlt (by omega)
      · have HE := hide (Hr.out.trans (runE_step _ s k hlt hg))
        have nl := ltrI_yes s[k] hg
        go_wp2_with (go_at_call 41; refine (letter_any _ _).mono ?_; rintro e w' ⟨rfl, rfl⟩)
        go_round
        case rel => exact ⟨k + 1, by omega, by go_num, HE.out⟩
        case measure => simp [intOf]; omega
    · have e : s.size = k := by have := runE_end isL s k (by omega); have := Hr.out; have := hB.out; omega
      subst e
      go_wp2_with fail
      go_loop [4] (fun a => ∃ k : Nat, s.size ≤ k ∧ k ≤ s.size ∧ a = .int .i64 k ∧ Hid (runE dig s (s.size) = runE dig s k)) (fun a => s.size - (intOf a).toNat)
      case atStart => exact ⟨s.size, Nat.le_refl _, by omega, by first | rfl | go_num, rfl⟩
      case round =>
        obtain ⟨k, hkl, hk, rfl, Hr⟩ := hrel
        by_cases hlt : k < s.size
        · exact absurd hlt (by omega)
        · have e : s.size = k := by have := runE_end dig s k (by omega); have := Hr.out; have := hD.out; omega
          subst e
          go_wp2_with fail
          refine bodyPost_ret (by simp [results, Tryd.results33, go_sem]; try rfl) rfl ?_
          refine ⟨rfl, ?_⟩
          go_grown

set_option maxHeartbeats 800000 in
set_option maxRecDepth 100000 in
theorem form_01L (s : ByteArray) (w : World) (hs : s.size ≤ maxLen) (hp : 0 < s.size) (h0 : ((s[0].toNat : Int) == 36) = false) (ha : cA s = 0) (hb : cB s < s.size) (h1 : ((s[cB s].toNat : Int) == 36) = true) (hc : cC s = cB s + 1) (hl : cB s = 0) :
    Calls Tryd.prog 33 #[.string s] w fun e w' => e = .returned (formV 0 0 0 false false) ∧ Below w.heap.size w w' := by
  exfalso
  simp only [hl] at h1
  rw [h0] at h1
  cases h1

set_option maxHeartbeats 800000 in
set_option maxRecDepth 100000 in
theorem form_01D (s : ByteArray) (w : World) (hs : s.size ≤ maxLen) (hp : 0 < s.size) (h0 : ((s[0].toNat : Int) == 36) = false) (ha : cA s = 0) (hb : cB s < s.size) (h1 : ((s[cB s].toNat : Int) == 36) = true) (hc : cC s = cB s + 1) (hl : 0 < cB s) (hd : cD s = cB s + 1) :
    Calls Tryd.prog 33 #[.string s] w fun e w' => e = .returned (formV 0 0 0 false false) ∧ Below w.heap.size w w' := by
  have hB : Hid (runE isL s 0 = cB s) := by unfold cB; rw [ha]; rfl
  have hD : Hid (runE dig s (cB s + 1) = cD s) := by unfold cD; rw [hc]; rfl
  obtain ⟨l1, l2, l3, l4⟩ := cut_le s
  rw [ha] at l1
  rw [hc] at l2 l3
  unfold maxLen at hs
  clear ha hc
  generalize cB s = b at *
  generalize cD s = d at *
  subst hd
  obtain ⟨x, hx⟩ : ∃ x, s.extract 0 b = x := ⟨_, rfl⟩
  have xz : x.size = b - 0 := by rw [← hx, ByteArray.size_extract]; omega
  have x0 : 0 < x.size := by omega
  have x1 := toList_ne x x0
  have x2 := isEmpty_ne x x0
  have eD : s.extract (b + 1) (b + 1) = { data := #[] } := ext_nil s _ _ (by omega)
  go_enter Tryd.func33, Tryd.ntmps33
  go_wp2_with fail
  go_loop [4] (fun a => ∃ k : Nat, k ≤ s.size ∧ a = .int .i64 k ∧ Hid (runE isL s 0 = runE isL s k)) (fun a => s.size - (intOf a).toNat)
  case atStart => exact ⟨0, by omega, rfl, rfl⟩
  case round =>
    obtain ⟨k, hk, rfl, Hr⟩ := hrel
    by_cases hlt : k < s.size
    · cases hg : isL s[k]
      · have e : b = k := by have := runE_stop isL s k hlt hg; have := Hr.out; have := hB.out; omega
        subst e
        have nl := ltrI_not s[b] hg
        go_wp2_with (go_at_call 41; refine (letter_any _ _).mono ?_; rintro e w' ⟨rfl, rfl⟩)
        go_loop [4] (fun a => ∃ k : Nat, b + 1 ≤ k ∧ k ≤ s.size ∧ a = .int .i64 k ∧ Hid (runE dig s (b + 1) = runE dig s k)) (fun a => s.size - (intOf a).toNat)
        case atStart => exact ⟨b + 1, Nat.le_refl _, by omega, by first | rfl | go_num, rfl⟩
        case round =>
          obtain ⟨k, hkl, hk, rfl, Hr⟩ := hrel
          by_cases hlt : k < s.size
          · cases hg : dig s[k]
            · have e : b + 1 = k := by have := runE_stop dig s k hlt hg; have := Hr.out; have := hD.out; omega
              subst e
              go_wp2_with (go_at_call 42; refine (refDigit_any _ _).mono ?_; rintro e w' ⟨rfl, rfl⟩)
              refine bodyPost_ret (by simp [results, Tryd.results33, go_sem]; try rfl) rfl ?_
              refine ⟨rfl, ?_⟩
              go_grown
            · have HE := hide (Hr.out.trans (runE_step _ s k hlt hg))
              go_wp2_with (go_at_call 42; refine (refDigit_any _ _).mono ?_; rintro e w' ⟨rfl, rfl⟩)
              go_round
              case rel => exact ⟨k + 1, by omega, by omega, by go_num, HE.out⟩
              case measure => simp [intOf]; omega
          · have e : b + 1 = k := by have := runE_end dig s k (by omega); have := Hr.out; have := hD.out; omega
            subst e
            go_wp2_with fail
            refine bodyPost_ret (by simp [results, Tryd.results33, go_sem]; try rfl) rfl ?_
            refine ⟨rfl, ?_⟩
            go_grown
      · have HE := hide (Hr.out.trans (runE_step _ s k hlt hg))
        have nl := ltrI_yes s[k] hg
        go_wp2_with (go_at_call 41; refine (letter_any _ _).mono ?_; rintro e w' ⟨rfl, rfl⟩)
        go_round
        case rel => exact ⟨k + 1, by omega, by go_num, HE.out⟩
        case measure => simp [intOf]; omega
    · have e : b = k := by have := runE_end isL s k (by omega); have := Hr.out; have := hB.out; omega
      subst e
      exact absurd hb (by omega)

set_option maxHeartbeats 800000 in
set_option maxRecDepth 100000 in
theorem form_01Z (s : ByteArray) (w : World) (hs : s.size ≤ maxLen) (hp : 0 < s.size) (h0 : ((s[0].toNat : Int) == 36) = false) (ha : cA s = 0) (hb : cB s < s.size) (h1 : ((s[cB s].toNat : Int) == 36) = true) (hc : cC s = cB s + 1) (hl : 0 < cB s) (hd : cB s + 1 < cD s) (hz : cB s + 1 < s.size) (h2 : ((s[cB s + 1].toNat : Int) == 48) = true) :
    Calls Tryd.prog 33 #[.string s] w fun e w' => e = .returned (formV 0 0 0 false false) ∧ Below w.heap.size w w' := by
  have hB : Hid (runE isL s 0 = cB s) := by unfold cB; rw [ha]; rfl
  have hD : Hid (runE dig s (cB s + 1) = cD s) := by unfold cD; rw [hc]; rfl
  obtain ⟨l1, l2, l3, l4⟩ := cut_le s
  rw [ha] at l1
  rw [hc] at l2 l3
  unfold maxLen at hs
  clear ha hc
  generalize cB s = b at *
  generalize cD s = d at *
  obtain ⟨x, hx⟩ : ∃ x, s.extract 0 b = x := ⟨_, rfl⟩
  have xz : x.size = b - 0 := by rw [← hx, ByteArray.size_extract]; omega
  have x0 : 0 < x.size := by omega
  have x1 := toList_ne x x0
  have x2 := isEmpty_ne x x0
  obtain ⟨y, hy⟩ : ∃ y, s.extract (b + 1) (d) = y := ⟨_, rfl⟩
  have yz : y.size = d - (b + 1) := by rw [← hy, ByteArray.size_extract]; omega
  have y0 : 0 < y.size := by omega
  have y1 := toList_ne y y0
  have y2 := isEmpty_ne y y0
  have y3 : ((y[0].toNat : Int) == 48) = true := by
    rw [show y[0] = s[b + 1]'(by omega) from ext_at s y _ _ hy y0 (by omega)]; exact h2
  clear h2
  go_enter Tryd.func33, Tryd.ntmps33
  go_wp2_with fail
  go_loop [4] (fun a => ∃ k : Nat, k ≤ s.size ∧ a = .int .i64 k ∧ Hid (runE isL s 0 = runE isL s k)) (fun a => s.size - (intOf a).toNat)
  case atStart => exact ⟨0, by omega, rfl, rfl⟩
  case round =>
    obtain ⟨k, hk, rfl, Hr⟩ := hrel
    by_cases hlt : k < s.size
    · cases hg : isL s[k]
      · have e : b = k := by have := runE_stop isL s k hlt hg; have := Hr.out; have := hB.out; omega
        subst e
        have nl := ltrI_not s[b] hg
        go_wp2_with (go_at_call 41; refine (letter_any _ _).mono ?_; rintro e w' ⟨rfl, rfl⟩)
        go_loop [4] (fun a => ∃ k : Nat, b + 1 ≤ k ∧ k ≤ s.size ∧ a = .int .i64 k ∧ Hid (runE dig s (b + 1) = runE dig s k)) (fun a => s.size - (intOf a).toNat)
        case atStart => exact ⟨b + 1, Nat.le_refl _, by omega, by first | rfl | go_num, rfl⟩
        case round =>
          obtain ⟨k, hkl, hk, rfl, Hr⟩ := hrel
          by_cases hlt : k < s.size
          · cases hg : dig s[k]
            · have e : d = k := by have := runE_stop dig s k hlt hg; have := Hr.out; have := hD.out; omega
              subst e
              go_wp2_with (go_at_call 42; refine (refDigit_any _ _).mono ?_; rintro e w' ⟨rfl, rfl⟩)
              refine bodyPost_ret (by simp [results, Tryd.results33, go_sem]; try rfl) rfl ?_
              refine ⟨rfl, ?_⟩
              go_grown
            · have HE := hide (Hr.out.trans (runE_step _ s k hlt hg))
              go_wp2_with (go_at_call 42; refine (refDigit_any _ _).mono ?_; rintro e w' ⟨rfl, rfl⟩)
              go_round
              case rel => exact ⟨k + 1, by omega, by omega, by go_num, HE.out⟩
              case measure => simp [intOf]; omega
          · have e : d = k := by have := runE_end dig s k (by omega); have := Hr.out; have := hD.out; omega
            subst e
            go_wp2_with fail
            refine bodyPost_ret (by simp [results, Tryd.results33, go_sem]; try rfl) rfl ?_
            refine ⟨rfl, ?_⟩
            go_grown
      · have HE := hide (Hr.out.trans (runE_step _ s k hlt hg))
        have nl := ltrI_yes s[k] hg
        go_wp2_with (go_at_call 41; refine (letter_any _ _).mono ?_; rintro e w' ⟨rfl, rfl⟩)
        go_round
        case rel => exact ⟨k + 1, by omega, by go_num, HE.out⟩
        case measure => simp [intOf]; omega
    · have e : b = k := by have := runE_end isL s k (by omega); have := Hr.out; have := hB.out; omega
      subst e
      exact absurd hb (by omega)

set_option maxHeartbeats 800000 in
set_option maxRecDepth 100000 in
theorem form_01ok (s : ByteArray) (w : World) (hs : s.size ≤ maxLen) (hp : 0 < s.size) (h0 : ((s[0].toNat : Int) == 36) = false) (ha : cA s = 0) (hb : cB s < s.size) (h1 : ((s[cB s].toNat : Int) == 36) = true) (hc : cC s = cB s + 1) (hl : 0 < cB s) (hd : cB s + 1 < cD s) (hz : cB s + 1 < s.size) (h2 : ((s[cB s + 1].toNat : Int) == 48) = false) :
    Calls Tryd.prog 33 #[.string s] w fun e w' => e = .returned (formV (cD s) (colR (s.extract 0 (cB s)).data.toList) (rowR (s.extract (cB s + 1) (cD s)).data.toList) false true) ∧ Below w.heap.size w w' := by
  have hB : Hid (runE isL s 0 = cB s) := by unfold cB; rw [ha]; rfl
  have hD : Hid (runE dig s (cB s + 1) = cD s) := by unfold cD; rw [hc]; rfl
  obtain ⟨l1, l2, l3, l4⟩ := cut_le s
  rw [ha] at l1
  rw [hc] at l2 l3
  have zl : 0 < (s.extract 0 (cB s)).size := by rw [ByteArray.size_extract]; omega
  have PE := hide (fun w => column_any (s.extract 0 (cB s)) w (by rw [ByteArray.size_extract]; omega) (by have := run_all isL s 0; rw [hB.out] at this; exact this) zl)
  have PF := hide (fun w => row_any (s.extract (cB s + 1) (cD s)) w (by rw [ByteArray.size_extract]; omega) (by have := run_all dig s (cB s + 1); rw [hD.out] at this; exact this))
  generalize colR (s.extract 0 (cB s)).data.toList = vc at *
  generalize rowR (s.extract (cB s + 1) (cD s)).data.toList = vr at *
  clear zl
  unfold maxLen at hs
  clear ha hc
  generalize cB s = b at *
  generalize cD s = d at *
  obtain ⟨x, hx⟩ : ∃ x, s.extract 0 b = x := ⟨_, rfl⟩
  have xz : x.size = b - 0 := by rw [← hx, ByteArray.size_extract]; omega
  have x0 : 0 < x.size := by omega
  have x1 := toList_ne x x0
  have x2 := isEmpty_ne x x0
  obtain ⟨y, hy⟩ : ∃ y, s.extract (b + 1) (d) = y := ⟨_, rfl⟩
  have yz : y.size = d - (b + 1) := by rw [← hy, ByteArray.size_extract]; omega
  have y0 : 0 < y.size := by omega
  have y1 := toList_ne y y0
  have y2 := isEmpty_ne y y0
  have y3 : ((y[0].toNat : Int) == 48) = false := by
    rw [show y[0] = s[b + 1]'(by omega) from ext_at s y _ _ hy y0 (by omega)]; exact h2
  clear h2
  rw [hx] at PE
  rw [hy] at PF
  go_enter Tryd.func33, Tryd.ntmps33
  go_wp2_with fail
  go_loop [4] (fun a => ∃ k : Nat, k ≤ s.size ∧ a = .int .i64 k ∧ Hid (runE isL s 0 = runE isL s k)) (fun a => s.size - (intOf a).toNat)
  case atStart => exact ⟨0, by omega, rfl, rfl⟩
  case round =>
    obtain ⟨k, hk, rfl, Hr⟩ := hrel
    by_cases hlt : k < s.size
    · cases hg : isL s[k]
      · have e : b = k := by have := runE_stop isL s k hlt hg; have := Hr.out; have := hB.out; omega
        subst e
        have nl := ltrI_not s[b] hg
        go_wp2_with (go_at_call 41; refine (letter_any _ _).mono ?_; rintro e w' ⟨rfl, rfl⟩)
        go_loop [4] (fun a => ∃ k : Nat, b + 1 ≤ k ∧ k ≤ s.size ∧ a = .int .i64 k ∧ Hid (runE dig s (b + 1) = runE dig s k)) (fun a => s.size - (intOf a).toNat)
        case atStart => exact ⟨b + 1, Nat.le_refl _, by omega, by first | rfl | go_num, rfl⟩
        case round =>
          obtain ⟨k, hkl, hk, rfl, Hr⟩ := hrel
          by_cases hlt : k < s.size
          · cases hg : dig s[k]
            · have e : d = k := by have := runE_stop dig s k hlt hg; have := Hr.out; have := hD.out; omega
              subst e
              go_wp2_with (go_at_call 42; refine (refDigit_any _ _).mono ?_; rintro e w' ⟨rfl, rfl⟩)
              refine (PE.out _).mono ?_
              rintro e w1 ⟨rfl, n1, rfl⟩
              go_wp2_with fail
              refine (PF.out _).mono ?_
              rintro e w2 ⟨rfl, rfl⟩
              go_wp2_with fail
              refine bodyPost_ret (by simp [results, Tryd.results33, go_sem]; try rfl) rfl ?_
              refine ⟨rfl, ?_⟩
              go_grown
              refine below_drewN ?_ _
              go_grown
            · have HE := hide (Hr.out.trans (runE_step _ s k hlt hg))
              go_wp2_with (go_at_call 42; refine (refDigit_any _ _).mono ?_; rintro e w' ⟨rfl, rfl⟩)
              go_round
              case rel => exact ⟨k + 1, by omega, by omega, by go_num, HE.out⟩
              case measure => simp [intOf]; omega
          · have e : d = k := by have := runE_end dig s k (by omega); have := Hr.out; have := hD.out; omega
            subst e
            go_wp2_with fail
            refine (PE.out _).mono ?_
            rintro e w1 ⟨rfl, n1, rfl⟩
            go_wp2_with fail
            refine (PF.out _).mono ?_
            rintro e w2 ⟨rfl, rfl⟩
            go_wp2_with fail
            refine bodyPost_ret (by simp [results, Tryd.results33, go_sem]; try rfl) rfl ?_
            refine ⟨rfl, ?_⟩
            go_grown
            refine below_drewN ?_ _
            go_grown
      · have HE := hide (Hr.out.trans (runE_step _ s k hlt hg))
        have nl := ltrI_yes s[k] hg
        go_wp2_with (go_at_call 41; refine (letter_any _ _).mono ?_; rintro e w' ⟨rfl, rfl⟩)
        go_round
        case rel => exact ⟨k + 1, by omega, by go_num, HE.out⟩
        case measure => simp [intOf]; omega
    · have e : b = k := by have := runE_end isL s k (by omega); have := Hr.out; have := hB.out; omega
      subst e
      exact absurd hb (by omega)

set_option maxHeartbeats 800000 in
set_option maxRecDepth 100000 in
theorem form_00L (s : ByteArray) (w : World) (hs : s.size ≤ maxLen) (hp : 0 < s.size) (h0 : ((s[0].toNat : Int) == 36) = false) (ha : cA s = 0) (hb : cB s < s.size) (h1 : ((s[cB s].toNat : Int) == 36) = false) (hc : cC s = cB s) (hl : cB s = 0) :
    Calls Tryd.prog 33 #[.string s] w fun e w' => e = .returned (formV 0 0 0 false false) ∧ Below w.heap.size w w' := by
  have hB : Hid (runE isL s 0 = cB s) := by unfold cB; rw [ha]; rfl
  have hD : Hid (runE dig s (cB s) = cD s) := by unfold cD; rw [hc]; rfl
  obtain ⟨l1, l2, l3, l4⟩ := cut_le s
  rw [ha] at l1
  rw [hc] at l2 l3
  unfold maxLen at hs
  clear ha hc
  generalize cB s = b at *
  generalize cD s = d at *
  subst hl
  have eL : s.extract 0 0 = { data := #[] } := ext_nil s _ _ (by omega)
  go_enter Tryd.func33, Tryd.ntmps33
  go_wp2_with fail
  go_loop [4] (fun a => ∃ k : Nat, k ≤ s.size ∧ a = .int .i64 k ∧ Hid (runE isL s 0 = runE isL s k)) (fun a => s.size - (intOf a).toNat)
  case atStart => exact ⟨0, by omega, rfl, rfl⟩
  case round =>
    obtain ⟨k, hk, rfl, Hr⟩ := hrel
    by_cases hlt : k < s.size
    · cases hg : isL s[k]
      · have e : 0 = k := by have := runE_stop isL s k hlt hg; have := Hr.out; have := hB.out; omega
        subst e
        have nl := ltrI_not s[0] hg
        go_wp2_with (go_at_call 41; refine (letter_any _ _).mono ?_; rintro e w' ⟨rfl, rfl⟩)
        go_loop [4] (fun a => ∃ k : Nat, 0 ≤ k ∧ k ≤ s.size ∧ a = .int .i64 k ∧ Hid (runE dig s (0) = runE dig s k)) (fun a => s.size - (intOf a).toNat)
        case atStart => exact ⟨0, Nat.le_refl _, by omega, by first | rfl | go_num, rfl⟩
        case round =>
          obtain ⟨k, hkl, hk, rfl, Hr⟩ := hrel
          by_cases hlt : k < s.size
          · cases hg : dig s[k]
            · have e : d = k := by have := runE_stop dig s k hlt hg; have := Hr.out; have := hD.out; omega
              subst e
              go_wp2_with (go_at_call 42; refine (refDigit_any _ _).mono ?_; rintro e w' ⟨rfl, rfl⟩)
              refine bodyPost_ret (by simp [results, Tryd.results33, go_sem]; try rfl) rfl ?_
              refine ⟨rfl, ?_⟩
              go_grown
            · have HE := hide (Hr.out.trans (runE_step _ s k hlt hg))
              go_wp2_with (go_at_call 42; refine (refDigit_any _ _).mono ?_; rintro e w' ⟨rfl, rfl⟩)
              go_round
              case rel => exact ⟨k + 1, by omega, by omega, by go_num, HE.out⟩
              case measure => simp [intOf]; omega
          · have e : d = k := by have := runE_end dig s k (by omega); have := Hr.out; have := hD.out; omega
            subst e
            go_wp2_with fail
            refine bodyPost_ret (by simp [results, Tryd.results33, go_sem]; try rfl) rfl ?_
            refine ⟨rfl, ?_⟩
            go_grown
      · have HE := hide (Hr.out.trans (runE_step _ s k hlt hg))
        have nl := ltrI_yes s[k] hg
        go_wp2_with (go_at_call 41; refine (letter_any _ _).mono ?_; rintro e w' ⟨rfl, rfl⟩)
        go_round
        case rel => exact ⟨k + 1, by omega, by go_num, HE.out⟩
        case measure => simp [intOf]; omega
    · have e : 0 = k := by have := runE_end isL s k (by omega); have := Hr.out; have := hB.out; omega
      subst e
      exact absurd hb (by omega)

set_option maxHeartbeats 800000 in
set_option maxRecDepth 100000 in
theorem form_00D (s : ByteArray) (w : World) (hs : s.size ≤ maxLen) (hp : 0 < s.size) (h0 : ((s[0].toNat : Int) == 36) = false) (ha : cA s = 0) (hb : cB s < s.size) (h1 : ((s[cB s].toNat : Int) == 36) = false) (hc : cC s = cB s) (hl : 0 < cB s) (hd : cD s = cB s) :
    Calls Tryd.prog 33 #[.string s] w fun e w' => e = .returned (formV 0 0 0 false false) ∧ Below w.heap.size w w' := by
  have hB : Hid (runE isL s 0 = cB s) := by unfold cB; rw [ha]; rfl
  have hD : Hid (runE dig s (cB s) = cD s) := by unfold cD; rw [hc]; rfl
  obtain ⟨l1, l2, l3, l4⟩ := cut_le s
  rw [ha] at l1
  rw [hc] at l2 l3
  unfold maxLen at hs
  clear ha hc
  generalize cB s = b at *
  generalize cD s = d at *
  have hd' := hd.symm
  clear hd
  subst hd'
  obtain ⟨x, hx⟩ : ∃ x, s.extract 0 b = x := ⟨_, rfl⟩
  have xz : x.size = b - 0 := by rw [← hx, ByteArray.size_extract]; omega
  have x0 : 0 < x.size := by omega
  have x1 := toList_ne x x0
  have x2 := isEmpty_ne x x0
  have eD : s.extract (b) (b) = { data := #[] } := ext_nil s _ _ (by omega)
  go_enter Tryd.func33, Tryd.ntmps33
  go_wp2_with fail
  go_loop [4] (fun a => ∃ k : Nat, k ≤ s.size ∧ a = .int .i64 k ∧ Hid (runE isL s 0 = runE isL s k)) (fun a => s.size - (intOf a).toNat)
  case atStart => exact ⟨0, by omega, rfl, rfl⟩
  case round =>
    obtain ⟨k, hk, rfl, Hr⟩ := hrel
    by_cases hlt : k < s.size
    · cases hg : isL s[k]
      · have e : b = k := by have := runE_stop isL s k hlt hg; have := Hr.out; have := hB.out; omega
        subst e
        have nl := ltrI_not s[b] hg
        go_wp2_with (go_at_call 41; refine (letter_any _ _).mono ?_; rintro e w' ⟨rfl, rfl⟩)
        go_loop [4] (fun a => ∃ k : Nat, b ≤ k ∧ k ≤ s.size ∧ a = .int .i64 k ∧ Hid (runE dig s (b) = runE dig s k)) (fun a => s.size - (intOf a).toNat)
        case atStart => exact ⟨b, Nat.le_refl _, by omega, by first | rfl | go_num, rfl⟩
        case round =>
          obtain ⟨k, hkl, hk, rfl, Hr⟩ := hrel
          by_cases hlt : k < s.size
          · cases hg : dig s[k]
            · have e : b = k := by have := runE_stop dig s k hlt hg; have := Hr.out; have := hD.out; omega
              subst e
              go_wp2_with (go_at_call 42; refine (refDigit_any _ _).mono ?_; rintro e w' ⟨rfl, rfl⟩)
              refine bodyPost_ret (by simp [results, Tryd.results33, go_sem]; try rfl) rfl ?_
              refine ⟨rfl, ?_⟩
              go_grown
            · have HE := hide (Hr.out.trans (runE_step _ s k hlt hg))
              go_wp2_with (go_at_call 42; refine (refDigit_any _ _).mono ?_; rintro e w' ⟨rfl, rfl⟩)
              go_round
              case rel => exact ⟨k + 1, by omega, by omega, by go_num, HE.out⟩
              case measure => simp [intOf]; omega
          · have e : b = k := by have := runE_end dig s k (by omega); have := Hr.out; have := hD.out; omega
            exact absurd hb (by omega)
      · have HE := hide (Hr.out.trans (runE_step _ s k hlt hg))
        have nl := ltrI_yes s[k] hg
        go_wp2_with (go_at_call 41; refine (letter_any _ _).mono ?_; rintro e w' ⟨rfl, rfl⟩)
        go_round
        case rel => exact ⟨k + 1, by omega, by go_num, HE.out⟩
        case measure => simp [intOf]; omega
    · have e : b = k := by have := runE_end isL s k (by omega); have := Hr.out; have := hB.out; omega
      subst e
      exact absurd hb (by omega)

set_option maxHeartbeats 800000 in
set_option maxRecDepth 100000 in
theorem form_00Z (s : ByteArray) (w : World) (hs : s.size ≤ maxLen) (hp : 0 < s.size) (h0 : ((s[0].toNat : Int) == 36) = false) (ha : cA s = 0) (hb : cB s < s.size) (h1 : ((s[cB s].toNat : Int) == 36) = false) (hc : cC s = cB s) (hl : 0 < cB s) (hd : cB s < cD s) (hz : cB s < s.size) (h2 : ((s[cB s].toNat : Int) == 48) = true) :
    Calls Tryd.prog 33 #[.string s] w fun e w' => e = .returned (formV 0 0 0 false false) ∧ Below w.heap.size w w' := by
  have hB : Hid (runE isL s 0 = cB s) := by unfold cB; rw [ha]; rfl
  have hD : Hid (runE dig s (cB s) = cD s) := by unfold cD; rw [hc]; rfl
  obtain ⟨l1, l2, l3, l4⟩ := cut_le s
  rw [ha] at l1
  rw [hc] at l2 l3
  unfold maxLen at hs
  clear ha hc
  generalize cB s = b at *
  generalize cD s = d at *
  obtain ⟨x, hx⟩ : ∃ x, s.extract 0 b = x := ⟨_, rfl⟩
  have xz : x.size = b - 0 := by rw [← hx, ByteArray.size_extract]; omega
  have x0 : 0 < x.size := by omega
  have x1 := toList_ne x x0
  have x2 := isEmpty_ne x x0
  obtain ⟨y, hy⟩ : ∃ y, s.extract (b) (d) = y := ⟨_, rfl⟩
  have yz : y.size = d - (b) := by rw [← hy, ByteArray.size_extract]; omega
  have y0 : 0 < y.size := by omega
  have y1 := toList_ne y y0
  have y2 := isEmpty_ne y y0
  have y3 : ((y[0].toNat : Int) == 48) = true := by
    rw [show y[0] = s[b]'(by omega) from ext_at s y _ _ hy y0 (by omega)]; exact h2
  clear h2
  go_enter Tryd.func33, Tryd.ntmps33
  go_wp2_with fail
  go_loop [4] (fun a => ∃ k : Nat, k ≤ s.size ∧ a = .int .i64 k ∧ Hid (runE isL s 0 = runE isL s k)) (fun a => s.size - (intOf a).toNat)
  case atStart => exact ⟨0, by omega, rfl, rfl⟩
  case round =>
    obtain ⟨k, hk, rfl, Hr⟩ := hrel
    by_cases hlt : k < s.size
    · cases hg : isL s[k]
      · have e : b = k := by have := runE_stop isL s k hlt hg; have := Hr.out; have := hB.out; omega
        subst e
        have nl := ltrI_not s[b] hg
        go_wp2_with (go_at_call 41; refine (letter_any _ _).mono ?_; rintro e w' ⟨rfl, rfl⟩)
        go_loop [4] (fun a => ∃ k : Nat, b ≤ k ∧ k ≤ s.size ∧ a = .int .i64 k ∧ Hid (runE dig s (b) = runE dig s k)) (fun a => s.size - (intOf a).toNat)
        case atStart => exact ⟨b, Nat.le_refl _, by omega, by first | rfl | go_num, rfl⟩
        case round =>
          obtain ⟨k, hkl, hk, rfl, Hr⟩ := hrel
          by_cases hlt : k < s.size
          · cases hg : dig s[k]
            · have e : d = k := by have := runE_stop dig s k hlt hg; have := Hr.out; have := hD.out; omega
              subst e
              go_wp2_with (go_at_call 42; refine (refDigit_any _ _).mono ?_; rintro e w' ⟨rfl, rfl⟩)
              refine bodyPost_ret (by simp [results, Tryd.results33, go_sem]; try rfl) rfl ?_
              refine ⟨rfl, ?_⟩
              go_grown
            · have HE := hide (Hr.out.trans (runE_step _ s k hlt hg))
              go_wp2_with (go_at_call 42; refine (refDigit_any _ _).mono ?_; rintro e w' ⟨rfl, rfl⟩)
              go_round
              case rel => exact ⟨k + 1, by omega, by omega, by go_num, HE.out⟩
              case measure => simp [intOf]; omega
          · have e : d = k := by have := runE_end dig s k (by omega); have := Hr.out; have := hD.out; omega
            subst e
            go_wp2_with fail
            refine bodyPost_ret (by simp [results, Tryd.results33, go_sem]; try rfl) rfl ?_
            refine ⟨rfl, ?_⟩
            go_grown
      · have HE := hide (Hr.out.trans (runE_step _ s k hlt hg))
        have nl := ltrI_yes s[k] hg
        go_wp2_with (go_at_call 41; refine (letter_any _ _).mono ?_; rintro e w' ⟨rfl, rfl⟩)
        go_round
        case rel => exact ⟨k + 1, by omega, by go_num, HE.out⟩
        case measure => simp [intOf]; omega
    · have e : b = k := by have := runE_end isL s k (by omega); have := Hr.out; have := hB.out; omega
      subst e
      exact absurd hb (by omega)

set_option maxHeartbeats 800000 in
set_option maxRecDepth 100000 in
theorem form_00ok (s : ByteArray) (w : World) (hs : s.size ≤ maxLen) (hp : 0 < s.size) (h0 : ((s[0].toNat : Int) == 36) = false) (ha : cA s = 0) (hb : cB s < s.size) (h1 : ((s[cB s].toNat : Int) == 36) = false) (hc : cC s = cB s) (hl : 0 < cB s) (hd : cB s < cD s) (hz : cB s < s.size) (h2 : ((s[cB s].toNat : Int) == 48) = false) :
    Calls Tryd.prog 33 #[.string s] w fun e w' => e = .returned (formV (cD s) (colR (s.extract 0 (cB s)).data.toList) (rowR (s.extract (cB s) (cD s)).data.toList) false false) ∧ Below w.heap.size w w' := by
  have hB : Hid (runE isL s 0 = cB s) := by unfold cB; rw [ha]; rfl
  have hD : Hid (runE dig s (cB s) = cD s) := by unfold cD; rw [hc]; rfl
  obtain ⟨l1, l2, l3, l4⟩ := cut_le s
  rw [ha] at l1
  rw [hc] at l2 l3
  have zl : 0 < (s.extract 0 (cB s)).size := by rw [ByteArray.size_extract]; omega
  have PE := hide (fun w => column_any (s.extract 0 (cB s)) w (by rw [ByteArray.size_extract]; omega) (by have := run_all isL s 0; rw [hB.out] at this; exact this) zl)
  have PF := hide (fun w => row_any (s.extract (cB s) (cD s)) w (by rw [ByteArray.size_extract]; omega) (by have := run_all dig s (cB s); rw [hD.out] at this; exact this))
  generalize colR (s.extract 0 (cB s)).data.toList = vc at *
  generalize rowR (s.extract (cB s) (cD s)).data.toList = vr at *
  clear zl
  unfold maxLen at hs
  clear ha hc
  generalize cB s = b at *
  generalize cD s = d at *
  obtain ⟨x, hx⟩ : ∃ x, s.extract 0 b = x := ⟨_, rfl⟩
  have xz : x.size = b - 0 := by rw [← hx, ByteArray.size_extract]; omega
  have x0 : 0 < x.size := by omega
  have x1 := toList_ne x x0
  have x2 := isEmpty_ne x x0
  obtain ⟨y, hy⟩ : ∃ y, s.extract (b) (d) = y := ⟨_, rfl⟩
  have yz : y.size = d - (b) := by rw [← hy, ByteArray.size_extract]; omega
  have y0 : 0 < y.size := by omega
  have y1 := toList_ne y y0
  have y2 := isEmpty_ne y y0
  have y3 : ((y[0].toNat : Int) == 48) = false := by
    rw [show y[0] = s[b]'(by omega) from ext_at s y _ _ hy y0 (by omega)]; exact h2
  clear h2
  rw [hx] at PE
  rw [hy] at PF
  go_enter Tryd.func33, Tryd.ntmps33
  go_wp2_with fail
  go_loop [4] (fun a => ∃ k : Nat, k ≤ s.size ∧ a = .int .i64 k ∧ Hid (runE isL s 0 = runE isL s k)) (fun a => s.size - (intOf a).toNat)
  case atStart => exact ⟨0, by omega, rfl, rfl⟩
  case round =>
    obtain ⟨k, hk, rfl, Hr⟩ := hrel
    by_cases hlt : k < s.size
    · cases hg : isL s[k]
      · have e : b = k := by have := runE_stop isL s k hlt hg; have := Hr.out; have := hB.out; omega
        subst e
        have nl := ltrI_not s[b] hg
        go_wp2_with (go_at_call 41; refine (letter_any _ _).mono ?_; rintro e w' ⟨rfl, rfl⟩)
        go_loop [4] (fun a => ∃ k : Nat, b ≤ k ∧ k ≤ s.size ∧ a = .int .i64 k ∧ Hid (runE dig s (b) = runE dig s k)) (fun a => s.size - (intOf a).toNat)
        case atStart => exact ⟨b, Nat.le_refl _, by omega, by first | rfl | go_num, rfl⟩
        case round =>
          obtain ⟨k, hkl, hk, rfl, Hr⟩ := hrel
          by_cases hlt : k < s.size
          · cases hg : dig s[k]
            · have e : d = k := by have := runE_stop dig s k hlt hg; have := Hr.out; have := hD.out; omega
              subst e
              go_wp2_with (go_at_call 42; refine (refDigit_any _ _).mono ?_; rintro e w' ⟨rfl, rfl⟩)
              refine (PE.out _).mono ?_
              rintro e w1 ⟨rfl, n1, rfl⟩
              go_wp2_with fail
              refine (PF.out _).mono ?_
              rintro e w2 ⟨rfl, rfl⟩
              go_wp2_with fail
              refine bodyPost_ret (by simp [results, Tryd.results33, go_sem]; try rfl) rfl ?_
              refine ⟨rfl, ?_⟩
              go_grown
              refine below_drewN ?_ _
              go_grown
            · have HE := hide (Hr.out.trans (runE_step _ s k hlt hg))
              go_wp2_with (go_at_call 42; refine (refDigit_any _ _).mono ?_; rintro e w' ⟨rfl, rfl⟩)
              go_round
              case rel => exact ⟨k + 1, by omega, by omega, by go_num, HE.out⟩
              case measure => simp [intOf]; omega
          · have e : d = k := by have := runE_end dig s k (by omega); have := Hr.out; have := hD.out; omega
            subst e
            go_wp2_with fail
            refine (PE.out _).mono ?_
            rintro e w1 ⟨rfl, n1, rfl⟩
            go_wp2_with fail
            refine (PF.out _).mono ?_
            rintro e w2 ⟨rfl, rfl⟩
            go_wp2_with fail
            refine bodyPost_ret (by simp [results, Tryd.results33, go_sem]; try rfl) rfl ?_
            refine ⟨rfl, ?_⟩
            go_grown
            refine below_drewN ?_ _
            go_grown
      · have HE := hide (Hr.out.trans (runE_step _ s k hlt hg))
        have nl := ltrI_yes s[k] hg
        go_wp2_with (go_at_call 41; refine (letter_any _ _).mono ?_; rintro e w' ⟨rfl, rfl⟩)
        go_round
        case rel => exact ⟨k + 1, by omega, by go_num, HE.out⟩
        case measure => simp [intOf]; omega
    · have e : b = k := by have := runE_end isL s k (by omega); have := Hr.out; have := hB.out; omega
      subst e
      exact absurd hb (by omega)

end Go.Proofs.YtcabgnikbgoikaaDoor
