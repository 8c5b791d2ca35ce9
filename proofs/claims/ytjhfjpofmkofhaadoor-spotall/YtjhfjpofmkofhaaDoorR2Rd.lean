/- What the reference's Read answers, for every text: what package spot answers. Proved of the Go text. -/
import Derived.Test.YtjhfjpofmkofhaaDoorR2Read
namespace Go.Proofs.YtjhfjpofmkofhaaDoor
open Go.RowKit Go.Sort
set_option linter.unusedVariables false

def noS (l : List UInt8) : Bool := l.all fun c => !isS c
theorem noS_step (s : ByteArray) (k : Nat) (h : k < s.size) (hd : noS (s.data.toList.take k) = true) (h2 : isS s[k] = false) : noS (s.data.toList.take (k + 1)) = true := by
  unfold noS at *
  rw [take_snoc s k h, List.all_append, hd, List.all_cons, h2]; rfl
theorem noS_not (s : ByteArray) (k : Nat) (h : k < s.size) (h2 : isS s[k] = true) : noS s.data.toList = false := by
  unfold noS
  rw [List.all_eq_false]
  exact ⟨s[k], by rw [show s[k] = s.data.toList[k]'(by simpa using h) from rfl]; exact List.getElem_mem _, by rw [h2]; decide⟩
theorem plain_noS (L : List UInt8) (h : L.all (fun c => isL c || dig c) = true) : plainL L = noS L := by
  unfold plainL noS
  induction L with
  | nil => rfl
  | cons c r ih =>
    rw [List.all_cons, Bool.and_eq_true] at h
    rw [List.all_cons, List.all_cons, ih h.2]
    have hc := h.1
    have : (c == 36) = false := by
      rw [Bool.or_eq_true] at hc
      rcases hc with hc | hc
      · exact isL_36 c hc
      · exact dig_36 c hc
    rw [this, Bool.false_or]
/-- Without pins, read to its end, a text is of letters and digits alone. -/
theorem bare_plain (s : ByteArray) (h : synS s = false) (hn : rN s = s.size) (hq : fQ s = false) (hp : fP s = false) : plainL s.data.toList = noS s.data.toList := by
  have M := made_of s h
  have eq : decide (0 < cA s) = false := by unfold fQ at hq; rw [h] at hq; simpa using hq
  have ep : decide (cB s < cC s) = false := by unfold fP at hp; rw [h] at hp; simpa using hp
  have en : cD s = s.size := by unfold rN at hn; rw [h] at hn; simpa using hn
  apply plain_noS
  have hX : s.data.toList.drop (cD s) = [] := drop_nil s _ (by omega)
  rw [M.data, eq, ep, hX]
  simp only [pinL, Bool.false_eq_true, if_false, List.nil_append, List.append_nil, List.all_append, Bool.and_eq_true]
  refine ⟨?_, ?_⟩
  · have := M.ls
    rw [List.all_eq_true] at *
    intro x hx; rw [this x hx]; rfl
  · have := M.ds
    rw [List.all_eq_true] at *
    intro x hx; rw [this x hx, Bool.or_true]
theorem pin_first (s : ByteArray) (h : synS s = false) (hq : fQ s = true ∨ fP s = true) : plainL s.data.toList = false := by
  have M := made_of s h
  unfold plainL
  rw [List.all_eq_false]
  refine ⟨36, ?_, by decide⟩
  rw [M.data]
  rcases hq with hq | hq
  · have : decide (0 < cA s) = true := by unfold fQ at hq; rw [h] at hq; simpa using hq
    rw [this]; simp [pinL]
  · have : decide (cB s < cC s) = true := by unfold fP at hq; rw [h] at hq; simpa using hq
    rw [this]; simp [pinL]
set_option maxHeartbeats 800000 in
set_option maxRecDepth 100000 in
theorem readR_z (s : ByteArray) (w : World) (hs : s.size ≤ maxLen)  (HF : FormIs s 0 0 0 false false) :
    Calls Tryd.prog 21 #[.string s] w fun e w' => e = .returned (.tuple #[spotV 0 0, .int .i64 20]) ∧ Below w.heap.size w w' := by
  unfold maxLen at hs
  go_enter Tryd.func21, Tryd.ntmps21
  go_wp2_with fail
  refine (HF.out _).mono ?_
  rintro e w1 ⟨rfl, hb1⟩
  have B1 := hide (next (step (Below.refl w.heap.size w) _) hb1)
  have z1 := hb1.size
  try simp at z1
  have ro := (O2.new w (.int .i64 0) (.int .i64 0) 26).keep hb1
  have g0 := fun o => (ro.alloc o).1.1
  have g1 := fun o => (ro.alloc o).1.2
  have gf := fun o => (ro.alloc o).2
  clear ro hb1
  go_wp2_with fail
  refine bodyPost_ret (by simp [results, Tryd.results21, go_sem, g0, g1]; try rfl) rfl ?_
  refine ⟨rfl, ?_⟩
  go_grown
  all_goals first | exact B1.out | omega
set_option maxHeartbeats 800000 in
set_option maxRecDepth 100000 in
theorem readR_n (s : ByteArray) (w : World) (hs : s.size ≤ maxLen) (n : Nat) (c r : Int) (q p : Bool) (h0 : n ≠ 0) (h1 : n ≠ s.size) (HF : FormIs s n c r q p) :
    Calls Tryd.prog 21 #[.string s] w fun e w' => e = .returned (.tuple #[spotV 0 0, .int .i64 20]) ∧ Below w.heap.size w w' := by
  unfold maxLen at hs
  have t0 : ((n : Int) == 0) = false := by rw [beq_eq_false_iff_ne]; omega
  have t1 : ((n : Int) != s.size) = true := by rw [bne_iff_ne]; omega
  go_enter Tryd.func21, Tryd.ntmps21
  go_wp2_with fail
  refine (HF.out _).mono ?_
  rintro e w1 ⟨rfl, hb1⟩
  have B1 := hide (next (step (Below.refl w.heap.size w) _) hb1)
  have z1 := hb1.size
  try simp at z1
  have ro := (O2.new w (.int .i64 0) (.int .i64 0) 26).keep hb1
  have g0 := fun o => (ro.alloc o).1.1
  have g1 := fun o => (ro.alloc o).1.2
  have gf := fun o => (ro.alloc o).2
  clear ro hb1
  go_wp2_with fail
  refine bodyPost_ret (by simp [results, Tryd.results21, go_sem, g0, g1]; try rfl) rfl ?_
  refine ⟨rfl, ?_⟩
  go_grown
  all_goals first | exact B1.out | omega
set_option maxHeartbeats 800000 in
set_option maxRecDepth 100000 in
theorem readR_q (s : ByteArray) (w : World) (hs : s.size ≤ maxLen) (c r : Int) (p : Bool) (h0 : s.size ≠ 0) (HF : FormIs s s.size c r true p) :
    Calls Tryd.prog 21 #[.string s] w fun e w' => e = .returned (.tuple #[spotV 0 0, .int .i64 20]) ∧ Below w.heap.size w w' := by
  unfold maxLen at hs
  have t0 : ((s.size : Int) == 0) = false := by rw [beq_eq_false_iff_ne]; omega
  go_enter Tryd.func21, Tryd.ntmps21
  go_wp2_with fail
  refine (HF.out _).mono ?_
  rintro e w1 ⟨rfl, hb1⟩
  have B1 := hide (next (step (Below.refl w.heap.size w) _) hb1)
  have z1 := hb1.size
  try simp at z1
  have ro := (O2.new w (.int .i64 0) (.int .i64 0) 26).keep hb1
  have g0 := fun o => (ro.alloc o).1.1
  have g1 := fun o => (ro.alloc o).1.2
  have gf := fun o => (ro.alloc o).2
  clear ro hb1
  go_wp2_with fail
  refine bodyPost_ret (by simp [results, Tryd.results21, go_sem, g0, g1]; try rfl) rfl ?_
  refine ⟨rfl, ?_⟩
  go_grown
  all_goals first | exact B1.out | omega
set_option maxHeartbeats 800000 in
set_option maxRecDepth 100000 in
theorem readR_p (s : ByteArray) (w : World) (hs : s.size ≤ maxLen) (c r : Int) (h0 : s.size ≠ 0) (HF : FormIs s s.size c r false true) :
    Calls Tryd.prog 21 #[.string s] w fun e w' => e = .returned (.tuple #[spotV 0 0, .int .i64 20]) ∧ Below w.heap.size w w' := by
  unfold maxLen at hs
  have t0 : ((s.size : Int) == 0) = false := by rw [beq_eq_false_iff_ne]; omega
  go_enter Tryd.func21, Tryd.ntmps21
  go_wp2_with fail
  refine (HF.out _).mono ?_
  rintro e w1 ⟨rfl, hb1⟩
  have B1 := hide (next (step (Below.refl w.heap.size w) _) hb1)
  have z1 := hb1.size
  try simp at z1
  have ro := (O2.new w (.int .i64 0) (.int .i64 0) 26).keep hb1
  have g0 := fun o => (ro.alloc o).1.1
  have g1 := fun o => (ro.alloc o).1.2
  have gf := fun o => (ro.alloc o).2
  clear ro hb1
  go_wp2_with fail
  refine bodyPost_ret (by simp [results, Tryd.results21, go_sem, g0, g1]; try rfl) rfl ?_
  refine ⟨rfl, ?_⟩
  go_grown
  all_goals first | exact B1.out | omega
set_option maxHeartbeats 800000 in
set_option maxRecDepth 100000 in
theorem readR_s (s : ByteArray) (w : World) (hs : s.size ≤ maxLen) (c r : Int) (h0 : s.size ≠ 0) (hS : noS s.data.toList = false) (HF : FormIs s s.size c r false false) :
    Calls Tryd.prog 21 #[.string s] w fun e w' => e = .returned (.tuple #[spotV 0 0, .int .i64 20]) ∧ Below w.heap.size w w' := by
  unfold maxLen at hs
  have HS := hide hS
  clear hS
  have t0 : ((s.size : Int) == 0) = false := by rw [beq_eq_false_iff_ne]; omega
  go_enter Tryd.func21, Tryd.ntmps21
  go_wp2_with fail
  refine (HF.out _).mono ?_
  rintro e w1 ⟨rfl, hb1⟩
  have B1 := hide (next (step (Below.refl w.heap.size w) _) hb1)
  have z1 := hb1.size
  try simp at z1
  have ro := (O2.new w (.int .i64 0) (.int .i64 0) 26).keep hb1
  have g0 := fun o => (ro.alloc o).1.1
  have g1 := fun o => (ro.alloc o).1.2
  have gf := fun o => (ro.alloc o).2
  clear ro hb1
  go_wp2_with fail
  go_loop [5] (fun a => ∃ k : Nat, k ≤ s.size ∧ a = .int .i64 k ∧ Hid (noS (s.data.toList.take k) = true)) (fun a => s.size - (intOf a).toNat)
  case atStart => exact ⟨0, Nat.zero_le _, rfl, rfl⟩
  case round =>
    obtain ⟨k, hk, rfl, Hr⟩ := hrel
    by_cases hlt : k < s.size
    · by_cases h1 : 97 ≤ (s[k].toNat : Int)
      · by_cases h2 : (s[k].toNat : Int) ≤ 122
        · go_wp2_with fail
          refine bodyPost_ret (by simp [results, Tryd.results21, go_sem, g0, g1]; try rfl) rfl ?_
          refine ⟨rfl, ?_⟩
          go_grown
          all_goals first | exact B1.out | omega
        · have HE := hide (noS_step s k hlt Hr.out (by simp [isS]; omega))
          go_wp2_with fail
          go_round
          case rel => exact ⟨k + 1, by omega, by go_num, HE.out⟩
          case measure => simp [intOf]; omega
      · have HE := hide (noS_step s k hlt Hr.out (by simp [isS]; omega))
        have h3 : (s[k].toNat : Int) < 97 := by omega
        clear h1
        go_wp2_with fail
        go_round
        case rel => exact ⟨k + 1, by omega, by go_num, HE.out⟩
        case measure => simp [intOf]; omega
    · exact absurd (show noS s.data.toList = true by rw [← take_all s k (by omega)]; exact Hr.out) (by rw [HS.out]; decide)
set_option maxHeartbeats 800000 in
set_option maxRecDepth 100000 in
theorem readR_off (s : ByteArray) (w : World) (hs : s.size ≤ maxLen) (c r : Int) (h0 : s.size ≠ 0) (hS : noS s.data.toList = true) (hm : mayB r c = false) (HF : FormIs s s.size c r false false) :
    Calls Tryd.prog 21 #[.string s] w fun e w' => e = .returned (.tuple #[spotV 0 0, .int .i64 10]) ∧ Below w.heap.size w w' := by
  unfold maxLen at hs
  have HS := hide hS
  clear hS
  have t0 : ((s.size : Int) == 0) = false := by rw [beq_eq_false_iff_ne]; omega
  go_enter Tryd.func21, Tryd.ntmps21
  go_wp2_with fail
  refine (HF.out _).mono ?_
  rintro e w1 ⟨rfl, hb1⟩
  have B1 := hide (next (step (Below.refl w.heap.size w) _) hb1)
  have z1 := hb1.size
  try simp at z1
  have ro := (O2.new w (.int .i64 0) (.int .i64 0) 26).keep hb1
  have g0 := fun o => (ro.alloc o).1.1
  have g1 := fun o => (ro.alloc o).1.2
  have gf := fun o => (ro.alloc o).2
  have u0 := fun o o' => ((ro.alloc o).alloc o').1.1
  have u1 := fun o o' => ((ro.alloc o).alloc o').1.2
  have uf := fun o o' => ((ro.alloc o).alloc o').2
  have v0 := fun o o' o'' => (((ro.alloc o).alloc o').alloc o'').1.1
  have v1 := fun o o' o'' => (((ro.alloc o).alloc o').alloc o'').1.2
  have vf := fun o o' o'' => (((ro.alloc o).alloc o').alloc o'').2
  clear ro hb1
  go_wp2_with fail
  go_loop [5] (fun a => ∃ k : Nat, k ≤ s.size ∧ a = .int .i64 k ∧ Hid (noS (s.data.toList.take k) = true)) (fun a => s.size - (intOf a).toNat)
  case atStart => exact ⟨0, Nat.zero_le _, rfl, rfl⟩
  case round =>
    obtain ⟨k, hk, rfl, Hr⟩ := hrel
    by_cases hlt : k < s.size
    · by_cases h1 : 97 ≤ (s[k].toNat : Int)
      · by_cases h2 : (s[k].toNat : Int) ≤ 122
        · exact absurd (noS_not s k hlt (by simp [isS]; omega)) (by rw [HS.out]; decide)
        · have HE := hide (noS_step s k hlt Hr.out (by simp [isS]; omega))
          go_wp2_with fail
          go_round
          case rel => exact ⟨k + 1, by omega, by go_num, HE.out⟩
          case measure => simp [intOf]; omega
      · have HE := hide (noS_step s k hlt Hr.out (by simp [isS]; omega))
        have h3 : (s[k].toNat : Int) < 97 := by omega
        clear h1
        go_wp2_with fail
        go_round
        case rel => exact ⟨k + 1, by omega, by go_num, HE.out⟩
        case measure => simp [intOf]; omega
    · go_wp2_with (go_at_call 19; refine (refMay_any _ _ _).mono ?_; rintro e w' ⟨rfl, rfl⟩)
      refine bodyPost_ret (by simp [results, Tryd.results21, go_sem, v0, v1]; try rfl) rfl ?_
      refine ⟨rfl, ?_⟩
      go_grown
      all_goals first | exact B1.out | omega
set_option maxHeartbeats 800000 in
set_option maxRecDepth 100000 in
theorem readR_on (s : ByteArray) (w : World) (hs : s.size ≤ maxLen) (c r : Int) (h0 : s.size ≠ 0) (hS : noS s.data.toList = true) (hm : mayB r c = true) (HF : FormIs s s.size c r false false) :
    Calls Tryd.prog 21 #[.string s] w fun e w' => e = .returned (.tuple #[spotV r c, .int .i64 0]) ∧ Below w.heap.size w w' := by
  unfold maxLen at hs
  have HS := hide hS
  clear hS
  have t0 : ((s.size : Int) == 0) = false := by rw [beq_eq_false_iff_ne]; omega
  go_enter Tryd.func21, Tryd.ntmps21
  go_wp2_with fail
  refine (HF.out _).mono ?_
  rintro e w1 ⟨rfl, hb1⟩
  have B1 := hide (next (step (Below.refl w.heap.size w) _) hb1)
  have z1 := hb1.size
  try simp at z1
  have ro := (O2.new w (.int .i64 0) (.int .i64 0) 26).keep hb1
  have g0 := fun o => (ro.alloc o).1.1
  have g1 := fun o => (ro.alloc o).1.2
  have gf := fun o => (ro.alloc o).2
  have u0 := fun o o' => ((ro.alloc o).alloc o').1.1
  have u1 := fun o o' => ((ro.alloc o).alloc o').1.2
  have uf := fun o o' => ((ro.alloc o).alloc o').2
  have v0 := fun o o' o'' => (((ro.alloc o).alloc o').alloc o'').1.1
  have v1 := fun o o' o'' => (((ro.alloc o).alloc o').alloc o'').1.2
  have vf := fun o o' o'' => (((ro.alloc o).alloc o').alloc o'').2
  clear ro hb1
  go_wp2_with fail
  go_loop [5] (fun a => ∃ k : Nat, k ≤ s.size ∧ a = .int .i64 k ∧ Hid (noS (s.data.toList.take k) = true)) (fun a => s.size - (intOf a).toNat)
  case atStart => exact ⟨0, Nat.zero_le _, rfl, rfl⟩
  case round =>
    obtain ⟨k, hk, rfl, Hr⟩ := hrel
    by_cases hlt : k < s.size
    · by_cases h1 : 97 ≤ (s[k].toNat : Int)
      · by_cases h2 : (s[k].toNat : Int) ≤ 122
        · exact absurd (noS_not s k hlt (by simp [isS]; omega)) (by rw [HS.out]; decide)
        · have HE := hide (noS_step s k hlt Hr.out (by simp [isS]; omega))
          go_wp2_with fail
          go_round
          case rel => exact ⟨k + 1, by omega, by go_num, HE.out⟩
          case measure => simp [intOf]; omega
      · have HE := hide (noS_step s k hlt Hr.out (by simp [isS]; omega))
        have h3 : (s[k].toNat : Int) < 97 := by omega
        clear h1
        go_wp2_with fail
        go_round
        case rel => exact ⟨k + 1, by omega, by go_num, HE.out⟩
        case measure => simp [intOf]; omega
    · go_wp2_with (go_at_call 19; refine (refMay_any _ _ _).mono ?_; rintro e w' ⟨rfl, rfl⟩)
      refine bodyPost_ret (by simp [results, Tryd.results21, go_sem, v0, v1]; try rfl) rfl ?_
      refine ⟨rfl, ?_⟩
      go_grown
      all_goals first | exact B1.out | omega
theorem readR_any (s : ByteArray) (w : World) (hs : s.size ≤ maxLen) :
    Calls Tryd.prog 21 #[.string s] w fun e w' => e = .returned (if rdBad s then .tuple #[spotV 0 0, .int .i64 20] else .tuple #[spotV (rR s) (rC s), .int .i64 (rE s)]) ∧ Below w.heap.size w w' := by
  have HF : FormIs s (rN s) (fC s) (fR s) (fQ s) (fP s) := hide fun w => form_any s w hs
  cases hy : synS s
  case true =>
    obtain ⟨e1, e2, e3, e4, e5, e6, e7, e8, e9, e10⟩ := form_syn s hy
    have hb : rdBad s = true := by unfold rdBad; rw [e1]; rfl
    rw [hb]
    rw [e2, e7, e8, e9, e10] at HF
    exact readR_z s w hs HF
  have hp := cD_pos s hy
  have hn : rN s = cD s := by unfold rN; rw [hy]; simp
  have hE : (rE s == 20) = false := by unfold rE; rw [hy]; cases offS s <;> rfl
  by_cases h1 : rN s = s.size
  case neg =>
    have hb : rdBad s = true := by
      unfold rdBad
      rw [show (rN s != s.size) = true by rw [bne_iff_ne]; exact h1]; simp
    rw [hb]
    exact readR_n s w hs (rN s) _ _ _ _ (by omega) h1 HF
  have h0 : s.size ≠ 0 := by omega
  rw [h1] at HF
  have hbad : rdBad s = !plainL s.data.toList := by unfold rdBad; rw [hE, h1]; simp
  cases hq : fQ s
  case true =>
    rw [hbad, pin_first s hy (.inl hq)]
    rw [hq] at HF
    exact readR_q s w hs _ _ _ h0 HF
  cases hpp : fP s
  case true =>
    rw [hbad, pin_first s hy (.inr hpp)]
    rw [hq, hpp] at HF
    exact readR_p s w hs _ _ h0 HF
  rw [hbad, bare_plain s hy h1 hq hpp]
  rw [hq, hpp] at HF
  cases hS : noS s.data.toList
  · exact readR_s s w hs _ _ h0 hS HF
  · cases ho : offS s
    · obtain ⟨e1, e2, e3, e4, e5, _, e6⟩ := form_on s hy ho
      have := readR_on s w hs (fC s) (fR s) h0 hS (by rw [e1, e2]; exact e6) HF
      rw [e1, e2] at this
      rw [e5]
      exact this
    · obtain ⟨e1, e2, e3, e4, e5, e6, e7⟩ := form_off s hy ho
      have := readR_off s w hs (fC s) (fR s) h0 hS e1 HF
      rw [e2, e4, e5]
      exact this
end Go.Proofs.YtjhfjpofmkofhaaDoor
