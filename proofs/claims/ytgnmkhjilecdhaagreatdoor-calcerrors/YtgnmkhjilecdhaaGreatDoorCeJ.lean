/- CalcErrors where the function is none of these classes, or takes not so many arguments. Proved of the Go text. CalcErrors where an argument may not be. Proved of the Go text. CalcErrors where all arguments may be: of class asking a truth; the first error; no error; and with an error laid at one place. Proved of the Go text. CalcErrors where an error is laid at one place: it is the value. Proved of the Go text. -/
import Derived.Test.YtgnmkhjilecdhaaGreatDoorCkJ
import Derived.Test.YtgnmkhjilecdhaaGreatDoorB14J
import Derived.Test.YtgnmkhjilecdhaaGreatDoorCall14
namespace Go.Proofs.YtgnmkhjilecdhaaGreatDoor
open Go.RowKit Go.Sort
set_option linter.unusedVariables false


theorem slice10 (b o len cap : Nat) (hl : 10 < len) (hc : len ≤ cap) (w : World) : (Instr.slice 22 (.slice (some ⟨b, o, none⟩) len cap) none (some (.int .i64 10)) none).run Tryz.prog w = .ok (.slice (some ⟨b, o, none⟩) 10 cap) w := by
  have hu := Tryz.underlying22
  have h1 : (10 : Int) ≤ (cap : Int) := by omega
  go_simp
  try (intro h; omega)
  try (rw [if_pos (by omega)])
set_option maxHeartbeats 4000000 in
set_option maxRecDepth 100000 in
theorem ce_noneS (f : Int) (xs : List Va) (a : Option Addr) (cap : Nat) (u e0 : Int) (w : World) (ht : Tb w) (hl : xs.length ≤ 10) (hv0 : ValsAt w a xs) (nm : ByteArray) (c mn mx g : Int) (hg : g = 1) (HI : InfoIs f nm c mn mx g) (HC : Hid (∀ (w : World) (a : Option Addr) (cap : Nat), Tb w → ValsAt w a xs → Calls Tryz.prog 6 #[.int .i64 f, .slice a xs.length cap] w fun e w' => e = .returned (.tuple #[vV 0 0 no, .int .i64 1]) ∧ Below w.heap.size w w')) : Calls Tryz.prog 3 #[.int .i64 f, .slice a xs.length cap, .int .i64 u, .int .i64 e0] w fun e w' => e = .returned (.bool true) ∧ Below w.heap.size w w' := by
  subst hg
  have HT := hide ht
  have hv := hide hv0
  clear ht hv0
  obtain ⟨len, hlen⟩ : ∃ len, len = xs.length := ⟨_, rfl⟩
  rw [← hlen] at hl HC ⊢
  have hlh := hide hlen
  clear hlen
  have p10 : decide ((10 : Int) < (len : Int)) = false := by simp; omega
  replace hl := hide hl
  go_enter Tryz.func3, Tryz.ntmps3
  try simp only [List.append]
  go_wp2_with fail
  refine (begun14.out _ HT.out).mono ?_
  rintro e w1 ⟨rfl, hb1⟩
  have B1 := hide (next (Below.refl w.heap.size w) hb1)
  go_wp2_with fail
  refine (HI.out _).mono ?_
  rintro e w2 ⟨rfl, hb2⟩
  have B2 := hide (step (next B1.out hb2) (.cells #[.string nm, .int .i64 c, .int .i64 mn, .int .i64 mx] 25))
  have t2 := hide (F4.new w2 nm c mn mx 25)
  obtain ⟨w3, hw3⟩ : ∃ w3, w2.alloc (.cells #[.string nm, .int .i64 c, .int .i64 mn, .int .i64 mx] 25) = w3 := ⟨_, rfl⟩
  rw [hw3] at B2 t2
  clear hb1 hb2 B1
  go_wp2_with fail
  refine (HC.out _ _ _ (HT.out.keep B2.out) (hv.out.keep B2.out)).mono ?_
  rintro e w4 ⟨rfl, hb4⟩
  go_upto_region 7 with fail
  have B4 := hide (step (next B2.out hb4) (vO 0 0 no))
  have t4 := hide ((t2.out.keep hb4).keep ((Below.refl _ _).alloc (Nat.le_refl _) (vO 0 0 no)))
  have C4 := hide (O3.new w4 (.int .i64 0) (.int .i64 0) (.string no) 30)
  obtain ⟨w5, hw5⟩ : ∃ w5, w4.alloc (vO 0 0 no) = w5 := ⟨_, rfl⟩
  rw [hw5] at B4 t4 C4 ⊢
  clear hb4 B2 t2 hw5 hw3
  have s1 := t4.out.2.1
  have s2 := t4.out.2.2.1
  have s3 := t4.out.2.2.2
  have v0 := C4.out.1.1
  have v1 := C4.out.1.2.1
  have v2 := C4.out.1.2.2
  have veq := va_eq1 0 0 no
  go_wp2_with fail
  go_ret
  exact ⟨rfl, B4.out⟩
set_option maxHeartbeats 4000000 in
set_option maxRecDepth 100000 in
theorem ce_classS (f : Int) (xs : List Va) (a : Option Addr) (cap : Nat) (u e0 : Int) (w : World) (ht : Tb w) (hl : xs.length ≤ 10) (hv0 : ValsAt w a xs) (nm : ByteArray) (c mn mx g : Int) (hg : g = 0) (hc1 : (c != 1) = true) (hc2 : (c != 2) = true) (HI : InfoIs f nm c mn mx g) (HC : Hid (∀ (w : World) (a : Option Addr) (cap : Nat), Tb w → ValsAt w a xs → Calls Tryz.prog 6 #[.int .i64 f, .slice a xs.length cap] w fun e w' => e = .returned (.tuple #[vV 0 0 no, .int .i64 1]) ∧ Below w.heap.size w w')) : Calls Tryz.prog 3 #[.int .i64 f, .slice a xs.length cap, .int .i64 u, .int .i64 e0] w fun e w' => e = .returned (.bool true) ∧ Below w.heap.size w w' := by
  subst hg
  have HT := hide ht
  have hv := hide hv0
  clear ht hv0
  obtain ⟨len, hlen⟩ : ∃ len, len = xs.length := ⟨_, rfl⟩
  rw [← hlen] at hl HC ⊢
  have hlh := hide hlen
  clear hlen
  have p10 : decide ((10 : Int) < (len : Int)) = false := by simp; omega
  replace hl := hide hl
  go_enter Tryz.func3, Tryz.ntmps3
  try simp only [List.append]
  go_wp2_with fail
  refine (begun14.out _ HT.out).mono ?_
  rintro e w1 ⟨rfl, hb1⟩
  have B1 := hide (next (Below.refl w.heap.size w) hb1)
  go_wp2_with fail
  refine (HI.out _).mono ?_
  rintro e w2 ⟨rfl, hb2⟩
  have B2 := hide (step (next B1.out hb2) (.cells #[.string nm, .int .i64 c, .int .i64 mn, .int .i64 mx] 25))
  have t2 := hide (F4.new w2 nm c mn mx 25)
  obtain ⟨w3, hw3⟩ : ∃ w3, w2.alloc (.cells #[.string nm, .int .i64 c, .int .i64 mn, .int .i64 mx] 25) = w3 := ⟨_, rfl⟩
  rw [hw3] at B2 t2
  clear hb1 hb2 B1
  go_wp2_with fail
  refine (HC.out _ _ _ (HT.out.keep B2.out) (hv.out.keep B2.out)).mono ?_
  rintro e w4 ⟨rfl, hb4⟩
  go_upto_region 7 with fail
  have B4 := hide (step (next B2.out hb4) (vO 0 0 no))
  have t4 := hide ((t2.out.keep hb4).keep ((Below.refl _ _).alloc (Nat.le_refl _) (vO 0 0 no)))
  have C4 := hide (O3.new w4 (.int .i64 0) (.int .i64 0) (.string no) 30)
  obtain ⟨w5, hw5⟩ : ∃ w5, w4.alloc (vO 0 0 no) = w5 := ⟨_, rfl⟩
  rw [hw5] at B4 t4 C4 ⊢
  clear hb4 B2 t2 hw5 hw3
  have s1 := t4.out.2.1
  have s2 := t4.out.2.2.1
  have s3 := t4.out.2.2.2
  have v0 := C4.out.1.1
  have v1 := C4.out.1.2.1
  have v2 := C4.out.1.2.2
  have veq := va_eq1 0 0 no
  go_wp2_with fail
  go_ret
  exact ⟨rfl, B4.out⟩
set_option maxHeartbeats 4000000 in
set_option maxRecDepth 100000 in
theorem ce_fewS (f : Int) (xs : List Va) (a : Option Addr) (cap : Nat) (u e0 : Int) (w : World) (ht : Tb w) (hl : xs.length ≤ 10) (hv0 : ValsAt w a xs) (nm : ByteArray) (c mn mx g : Int) (hg : g = 0) (hc : c = 1 ∨ c = 2) (hq : decide ((xs.length : Int) < mn) = true) (HI : InfoIs f nm c mn mx g) (HC : Hid (∀ (w : World) (a : Option Addr) (cap : Nat), Tb w → ValsAt w a xs → Calls Tryz.prog 6 #[.int .i64 f, .slice a xs.length cap] w fun e w' => e = .returned (.tuple #[vV 0 0 no, .int .i64 1]) ∧ Below w.heap.size w w')) : Calls Tryz.prog 3 #[.int .i64 f, .slice a xs.length cap, .int .i64 u, .int .i64 e0] w fun e w' => e = .returned (.bool true) ∧ Below w.heap.size w w' := by
  subst hg
  rcases hc with rfl | rfl
  · have HT := hide ht
    have hv := hide hv0
    clear ht hv0
    obtain ⟨len, hlen⟩ : ∃ len, len = xs.length := ⟨_, rfl⟩
    rw [← hlen] at hl HC hq ⊢
    have hlh := hide hlen
    clear hlen
    have p10 : decide ((10 : Int) < (len : Int)) = false := by simp; omega
    replace hl := hide hl
    go_enter Tryz.func3, Tryz.ntmps3
    try simp only [List.append]
    go_wp2_with fail
    refine (begun14.out _ HT.out).mono ?_
    rintro e w1 ⟨rfl, hb1⟩
    have B1 := hide (next (Below.refl w.heap.size w) hb1)
    go_wp2_with fail
    refine (HI.out _).mono ?_
    rintro e w2 ⟨rfl, hb2⟩
    have B2 := hide (step (next B1.out hb2) (.cells #[.string nm, .int .i64 1, .int .i64 mn, .int .i64 mx] 25))
    have t2 := hide (F4.new w2 nm 1 mn mx 25)
    obtain ⟨w3, hw3⟩ : ∃ w3, w2.alloc (.cells #[.string nm, .int .i64 1, .int .i64 mn, .int .i64 mx] 25) = w3 := ⟨_, rfl⟩
    rw [hw3] at B2 t2
    clear hb1 hb2 B1
    go_wp2_with fail
    refine (HC.out _ _ _ (HT.out.keep B2.out) (hv.out.keep B2.out)).mono ?_
    rintro e w4 ⟨rfl, hb4⟩
    go_upto_region 7 with fail
    have B4 := hide (step (next B2.out hb4) (vO 0 0 no))
    have t4 := hide ((t2.out.keep hb4).keep ((Below.refl _ _).alloc (Nat.le_refl _) (vO 0 0 no)))
    have C4 := hide (O3.new w4 (.int .i64 0) (.int .i64 0) (.string no) 30)
    obtain ⟨w5, hw5⟩ : ∃ w5, w4.alloc (vO 0 0 no) = w5 := ⟨_, rfl⟩
    rw [hw5] at B4 t4 C4 ⊢
    clear hb4 B2 t2 hw5 hw3
    have s1 := t4.out.2.1
    have s2 := t4.out.2.2.1
    have s3 := t4.out.2.2.2
    have v0 := C4.out.1.1
    have v1 := C4.out.1.2.1
    have v2 := C4.out.1.2.2
    have veq := va_eq1 0 0 no
    go_wp2_with fail
    go_ret
    exact ⟨rfl, B4.out⟩
  · have HT := hide ht
    have hv := hide hv0
    clear ht hv0
    obtain ⟨len, hlen⟩ : ∃ len, len = xs.length := ⟨_, rfl⟩
    rw [← hlen] at hl HC hq ⊢
    have hlh := hide hlen
    clear hlen
    have p10 : decide ((10 : Int) < (len : Int)) = false := by simp; omega
    replace hl := hide hl
    go_enter Tryz.func3, Tryz.ntmps3
    try simp only [List.append]
    go_wp2_with fail
    refine (begun14.out _ HT.out).mono ?_
    rintro e w1 ⟨rfl, hb1⟩
    have B1 := hide (next (Below.refl w.heap.size w) hb1)
    go_wp2_with fail
    refine (HI.out _).mono ?_
    rintro e w2 ⟨rfl, hb2⟩
    have B2 := hide (step (next B1.out hb2) (.cells #[.string nm, .int .i64 2, .int .i64 mn, .int .i64 mx] 25))
    have t2 := hide (F4.new w2 nm 2 mn mx 25)
    obtain ⟨w3, hw3⟩ : ∃ w3, w2.alloc (.cells #[.string nm, .int .i64 2, .int .i64 mn, .int .i64 mx] 25) = w3 := ⟨_, rfl⟩
    rw [hw3] at B2 t2
    clear hb1 hb2 B1
    go_wp2_with fail
    refine (HC.out _ _ _ (HT.out.keep B2.out) (hv.out.keep B2.out)).mono ?_
    rintro e w4 ⟨rfl, hb4⟩
    go_upto_region 7 with fail
    have B4 := hide (step (next B2.out hb4) (vO 0 0 no))
    have t4 := hide ((t2.out.keep hb4).keep ((Below.refl _ _).alloc (Nat.le_refl _) (vO 0 0 no)))
    have C4 := hide (O3.new w4 (.int .i64 0) (.int .i64 0) (.string no) 30)
    obtain ⟨w5, hw5⟩ : ∃ w5, w4.alloc (vO 0 0 no) = w5 := ⟨_, rfl⟩
    rw [hw5] at B4 t4 C4 ⊢
    clear hb4 B2 t2 hw5 hw3
    have s1 := t4.out.2.1
    have s2 := t4.out.2.2.1
    have s3 := t4.out.2.2.2
    have v0 := C4.out.1.1
    have v1 := C4.out.1.2.1
    have v2 := C4.out.1.2.2
    have veq := va_eq1 0 0 no
    go_wp2_with fail
    go_ret
    exact ⟨rfl, B4.out⟩
set_option maxHeartbeats 4000000 in
set_option maxRecDepth 100000 in
theorem ce_manyS (f : Int) (xs : List Va) (a : Option Addr) (cap : Nat) (u e0 : Int) (w : World) (ht : Tb w) (hl : xs.length ≤ 10) (hv0 : ValsAt w a xs) (nm : ByteArray) (c mn mx g : Int) (hg : g = 0) (hc : c = 1 ∨ c = 2) (hq : decide ((xs.length : Int) < mn) = false) (hq2 : decide (mx < (xs.length : Int)) = true) (HI : InfoIs f nm c mn mx g) (HC : Hid (∀ (w : World) (a : Option Addr) (cap : Nat), Tb w → ValsAt w a xs → Calls Tryz.prog 6 #[.int .i64 f, .slice a xs.length cap] w fun e w' => e = .returned (.tuple #[vV 0 0 no, .int .i64 1]) ∧ Below w.heap.size w w')) : Calls Tryz.prog 3 #[.int .i64 f, .slice a xs.length cap, .int .i64 u, .int .i64 e0] w fun e w' => e = .returned (.bool true) ∧ Below w.heap.size w w' := by
  subst hg
  rcases hc with rfl | rfl
  · have HT := hide ht
    have hv := hide hv0
    clear ht hv0
    obtain ⟨len, hlen⟩ : ∃ len, len = xs.length := ⟨_, rfl⟩
    rw [← hlen] at hl HC hq hq2 ⊢
    have hlh := hide hlen
    clear hlen
    have p10 : decide ((10 : Int) < (len : Int)) = false := by simp; omega
    replace hl := hide hl
    go_enter Tryz.func3, Tryz.ntmps3
    try simp only [List.append]
    go_wp2_with fail
    refine (begun14.out _ HT.out).mono ?_
    rintro e w1 ⟨rfl, hb1⟩
    have B1 := hide (next (Below.refl w.heap.size w) hb1)
    go_wp2_with fail
    refine (HI.out _).mono ?_
    rintro e w2 ⟨rfl, hb2⟩
    have B2 := hide (step (next B1.out hb2) (.cells #[.string nm, .int .i64 1, .int .i64 mn, .int .i64 mx] 25))
    have t2 := hide (F4.new w2 nm 1 mn mx 25)
    obtain ⟨w3, hw3⟩ : ∃ w3, w2.alloc (.cells #[.string nm, .int .i64 1, .int .i64 mn, .int .i64 mx] 25) = w3 := ⟨_, rfl⟩
    rw [hw3] at B2 t2
    clear hb1 hb2 B1
    go_wp2_with fail
    refine (HC.out _ _ _ (HT.out.keep B2.out) (hv.out.keep B2.out)).mono ?_
    rintro e w4 ⟨rfl, hb4⟩
    go_upto_region 7 with fail
    have B4 := hide (step (next B2.out hb4) (vO 0 0 no))
    have t4 := hide ((t2.out.keep hb4).keep ((Below.refl _ _).alloc (Nat.le_refl _) (vO 0 0 no)))
    have C4 := hide (O3.new w4 (.int .i64 0) (.int .i64 0) (.string no) 30)
    obtain ⟨w5, hw5⟩ : ∃ w5, w4.alloc (vO 0 0 no) = w5 := ⟨_, rfl⟩
    rw [hw5] at B4 t4 C4 ⊢
    clear hb4 B2 t2 hw5 hw3
    have s1 := t4.out.2.1
    have s2 := t4.out.2.2.1
    have s3 := t4.out.2.2.2
    have v0 := C4.out.1.1
    have v1 := C4.out.1.2.1
    have v2 := C4.out.1.2.2
    have veq := va_eq1 0 0 no
    go_wp2_with fail
    go_ret
    exact ⟨rfl, B4.out⟩
  · have HT := hide ht
    have hv := hide hv0
    clear ht hv0
    obtain ⟨len, hlen⟩ : ∃ len, len = xs.length := ⟨_, rfl⟩
    rw [← hlen] at hl HC hq hq2 ⊢
    have hlh := hide hlen
    clear hlen
    have p10 : decide ((10 : Int) < (len : Int)) = false := by simp; omega
    replace hl := hide hl
    go_enter Tryz.func3, Tryz.ntmps3
    try simp only [List.append]
    go_wp2_with fail
    refine (begun14.out _ HT.out).mono ?_
    rintro e w1 ⟨rfl, hb1⟩
    have B1 := hide (next (Below.refl w.heap.size w) hb1)
    go_wp2_with fail
    refine (HI.out _).mono ?_
    rintro e w2 ⟨rfl, hb2⟩
    have B2 := hide (step (next B1.out hb2) (.cells #[.string nm, .int .i64 2, .int .i64 mn, .int .i64 mx] 25))
    have t2 := hide (F4.new w2 nm 2 mn mx 25)
    obtain ⟨w3, hw3⟩ : ∃ w3, w2.alloc (.cells #[.string nm, .int .i64 2, .int .i64 mn, .int .i64 mx] 25) = w3 := ⟨_, rfl⟩
    rw [hw3] at B2 t2
    clear hb1 hb2 B1
    go_wp2_with fail
    refine (HC.out _ _ _ (HT.out.keep B2.out) (hv.out.keep B2.out)).mono ?_
    rintro e w4 ⟨rfl, hb4⟩
    go_upto_region 7 with fail
    have B4 := hide (step (next B2.out hb4) (vO 0 0 no))
    have t4 := hide ((t2.out.keep hb4).keep ((Below.refl _ _).alloc (Nat.le_refl _) (vO 0 0 no)))
    have C4 := hide (O3.new w4 (.int .i64 0) (.int .i64 0) (.string no) 30)
    obtain ⟨w5, hw5⟩ : ∃ w5, w4.alloc (vO 0 0 no) = w5 := ⟨_, rfl⟩
    rw [hw5] at B4 t4 C4 ⊢
    clear hb4 B2 t2 hw5 hw3
    have s1 := t4.out.2.1
    have s2 := t4.out.2.2.1
    have s3 := t4.out.2.2.2
    have v0 := C4.out.1.1
    have v1 := C4.out.1.2.1
    have v2 := C4.out.1.2.2
    have veq := va_eq1 0 0 no
    go_wp2_with fail
    go_ret
    exact ⟨rfl, B4.out⟩
set_option maxHeartbeats 4000000 in
set_option maxRecDepth 100000 in
theorem ce_noneG (f : Int) (xs : List Va) (a : Option Addr) (cap : Nat) (u e0 : Int) (w : World) (ht : Tb w) (len : Nat) (hl : 10 < len) (hcap : len ≤ cap) (hx10 : xs.length = 10) (b o : Nat) (hv0 : ValsAt w (some ⟨b, o, none⟩) xs) (nm : ByteArray) (c mn mx g : Int) (hg : g = 1) (HI : InfoIs f nm c mn mx g) (HC : Hid (∀ (w : World) (a : Option Addr) (cap : Nat), Tb w → ValsAt w a xs → Calls Tryz.prog 6 #[.int .i64 f, .slice a xs.length cap] w fun e w' => e = .returned (.tuple #[vV 0 0 no, .int .i64 1]) ∧ Below w.heap.size w w')) : Calls Tryz.prog 3 #[.int .i64 f, .slice (some ⟨b, o, none⟩) len cap, .int .i64 u, .int .i64 e0] w fun e w' => e = .returned (.bool true) ∧ Below w.heap.size w w' := by
  subst hg
  rw [hx10] at HC
  have HT := hide ht
  have hv := hide hv0
  clear ht hv0
  have hsl := fun w => slice10 b o len cap hl hcap w
  have p10 : decide ((10 : Int) < (len : Int)) = true := by simp; omega
  clear hl hcap
  go_enter Tryz.func3, Tryz.ntmps3
  try simp only [List.append]
  go_wp2_with fail
  refine (begun14.out _ HT.out).mono ?_
  rintro e w1 ⟨rfl, hb1⟩
  have B1 := hide (next (Below.refl w.heap.size w) hb1)
  go_wp2_with fail
  refine (HI.out _).mono ?_
  rintro e w2 ⟨rfl, hb2⟩
  have B2 := hide (step (next B1.out hb2) (.cells #[.string nm, .int .i64 c, .int .i64 mn, .int .i64 mx] 25))
  have t2 := hide (F4.new w2 nm c mn mx 25)
  obtain ⟨w3, hw3⟩ : ∃ w3, w2.alloc (.cells #[.string nm, .int .i64 c, .int .i64 mn, .int .i64 mx] 25) = w3 := ⟨_, rfl⟩
  rw [hw3] at B2 t2
  clear hb1 hb2 B1
  go_wp2_with fail
  refine (HC.out _ _ _ (HT.out.keep B2.out) (hv.out.keep B2.out)).mono ?_
  rintro e w4 ⟨rfl, hb4⟩
  go_upto_region 7 with fail
  have B4 := hide (step (next B2.out hb4) (vO 0 0 no))
  have t4 := hide ((t2.out.keep hb4).keep ((Below.refl _ _).alloc (Nat.le_refl _) (vO 0 0 no)))
  have C4 := hide (O3.new w4 (.int .i64 0) (.int .i64 0) (.string no) 30)
  obtain ⟨w5, hw5⟩ : ∃ w5, w4.alloc (vO 0 0 no) = w5 := ⟨_, rfl⟩
  rw [hw5] at B4 t4 C4 ⊢
  clear hb4 B2 t2 hw5 hw3
  have s1 := t4.out.2.1
  have s2 := t4.out.2.2.1
  have s3 := t4.out.2.2.2
  have v0 := C4.out.1.1
  have v1 := C4.out.1.2.1
  have v2 := C4.out.1.2.2
  have veq := va_eq1 0 0 no
  go_wp2_with fail
  go_ret
  exact ⟨rfl, B4.out⟩
set_option maxHeartbeats 4000000 in
set_option maxRecDepth 100000 in
theorem ce_classG (f : Int) (xs : List Va) (a : Option Addr) (cap : Nat) (u e0 : Int) (w : World) (ht : Tb w) (len : Nat) (hl : 10 < len) (hcap : len ≤ cap) (hx10 : xs.length = 10) (b o : Nat) (hv0 : ValsAt w (some ⟨b, o, none⟩) xs) (nm : ByteArray) (c mn mx g : Int) (hg : g = 0) (hc1 : (c != 1) = true) (hc2 : (c != 2) = true) (HI : InfoIs f nm c mn mx g) (HC : Hid (∀ (w : World) (a : Option Addr) (cap : Nat), Tb w → ValsAt w a xs → Calls Tryz.prog 6 #[.int .i64 f, .slice a xs.length cap] w fun e w' => e = .returned (.tuple #[vV 0 0 no, .int .i64 1]) ∧ Below w.heap.size w w')) : Calls Tryz.prog 3 #[.int .i64 f, .slice (some ⟨b, o, none⟩) len cap, .int .i64 u, .int .i64 e0] w fun e w' => e = .returned (.bool true) ∧ Below w.heap.size w w' := by
  subst hg
  rw [hx10] at HC
  have HT := hide ht
  have hv := hide hv0
  clear ht hv0
  have hsl := fun w => slice10 b o len cap hl hcap w
  have p10 : decide ((10 : Int) < (len : Int)) = true := by simp; omega
  clear hl hcap
  go_enter Tryz.func3, Tryz.ntmps3
  try simp only [List.append]
  go_wp2_with fail
  refine (begun14.out _ HT.out).mono ?_
  rintro e w1 ⟨rfl, hb1⟩
  have B1 := hide (next (Below.refl w.heap.size w) hb1)
  go_wp2_with fail
  refine (HI.out _).mono ?_
  rintro e w2 ⟨rfl, hb2⟩
  have B2 := hide (step (next B1.out hb2) (.cells #[.string nm, .int .i64 c, .int .i64 mn, .int .i64 mx] 25))
  have t2 := hide (F4.new w2 nm c mn mx 25)
  obtain ⟨w3, hw3⟩ : ∃ w3, w2.alloc (.cells #[.string nm, .int .i64 c, .int .i64 mn, .int .i64 mx] 25) = w3 := ⟨_, rfl⟩
  rw [hw3] at B2 t2
  clear hb1 hb2 B1
  go_wp2_with fail
  refine (HC.out _ _ _ (HT.out.keep B2.out) (hv.out.keep B2.out)).mono ?_
  rintro e w4 ⟨rfl, hb4⟩
  go_upto_region 7 with fail
  have B4 := hide (step (next B2.out hb4) (vO 0 0 no))
  have t4 := hide ((t2.out.keep hb4).keep ((Below.refl _ _).alloc (Nat.le_refl _) (vO 0 0 no)))
  have C4 := hide (O3.new w4 (.int .i64 0) (.int .i64 0) (.string no) 30)
  obtain ⟨w5, hw5⟩ : ∃ w5, w4.alloc (vO 0 0 no) = w5 := ⟨_, rfl⟩
  rw [hw5] at B4 t4 C4 ⊢
  clear hb4 B2 t2 hw5 hw3
  have s1 := t4.out.2.1
  have s2 := t4.out.2.2.1
  have s3 := t4.out.2.2.2
  have v0 := C4.out.1.1
  have v1 := C4.out.1.2.1
  have v2 := C4.out.1.2.2
  have veq := va_eq1 0 0 no
  go_wp2_with fail
  go_ret
  exact ⟨rfl, B4.out⟩
set_option maxHeartbeats 4000000 in
set_option maxRecDepth 100000 in
theorem ce_fewG (f : Int) (xs : List Va) (a : Option Addr) (cap : Nat) (u e0 : Int) (w : World) (ht : Tb w) (len : Nat) (hl : 10 < len) (hcap : len ≤ cap) (hx10 : xs.length = 10) (b o : Nat) (hv0 : ValsAt w (some ⟨b, o, none⟩) xs) (nm : ByteArray) (c mn mx g : Int) (hg : g = 0) (hc : c = 1 ∨ c = 2) (hq : decide ((10 : Int) < mn) = true) (HI : InfoIs f nm c mn mx g) (HC : Hid (∀ (w : World) (a : Option Addr) (cap : Nat), Tb w → ValsAt w a xs → Calls Tryz.prog 6 #[.int .i64 f, .slice a xs.length cap] w fun e w' => e = .returned (.tuple #[vV 0 0 no, .int .i64 1]) ∧ Below w.heap.size w w')) : Calls Tryz.prog 3 #[.int .i64 f, .slice (some ⟨b, o, none⟩) len cap, .int .i64 u, .int .i64 e0] w fun e w' => e = .returned (.bool true) ∧ Below w.heap.size w w' := by
  subst hg
  rw [hx10] at HC
  rcases hc with rfl | rfl
  · have HT := hide ht
    have hv := hide hv0
    clear ht hv0
    have hsl := fun w => slice10 b o len cap hl hcap w
    have p10 : decide ((10 : Int) < (len : Int)) = true := by simp; omega
    clear hl hcap
    go_enter Tryz.func3, Tryz.ntmps3
    try simp only [List.append]
    go_wp2_with fail
    refine (begun14.out _ HT.out).mono ?_
    rintro e w1 ⟨rfl, hb1⟩
    have B1 := hide (next (Below.refl w.heap.size w) hb1)
    go_wp2_with fail
    refine (HI.out _).mono ?_
    rintro e w2 ⟨rfl, hb2⟩
    have B2 := hide (step (next B1.out hb2) (.cells #[.string nm, .int .i64 1, .int .i64 mn, .int .i64 mx] 25))
    have t2 := hide (F4.new w2 nm 1 mn mx 25)
    obtain ⟨w3, hw3⟩ : ∃ w3, w2.alloc (.cells #[.string nm, .int .i64 1, .int .i64 mn, .int .i64 mx] 25) = w3 := ⟨_, rfl⟩
    rw [hw3] at B2 t2
    clear hb1 hb2 B1
    go_wp2_with fail
    refine (HC.out _ _ _ (HT.out.keep B2.out) (hv.out.keep B2.out)).mono ?_
    rintro e w4 ⟨rfl, hb4⟩
    go_upto_region 7 with fail
    have B4 := hide (step (next B2.out hb4) (vO 0 0 no))
    have t4 := hide ((t2.out.keep hb4).keep ((Below.refl _ _).alloc (Nat.le_refl _) (vO 0 0 no)))
    have C4 := hide (O3.new w4 (.int .i64 0) (.int .i64 0) (.string no) 30)
    obtain ⟨w5, hw5⟩ : ∃ w5, w4.alloc (vO 0 0 no) = w5 := ⟨_, rfl⟩
    rw [hw5] at B4 t4 C4 ⊢
    clear hb4 B2 t2 hw5 hw3
    have s1 := t4.out.2.1
    have s2 := t4.out.2.2.1
    have s3 := t4.out.2.2.2
    have v0 := C4.out.1.1
    have v1 := C4.out.1.2.1
    have v2 := C4.out.1.2.2
    have veq := va_eq1 0 0 no
    go_wp2_with fail
    go_ret
    exact ⟨rfl, B4.out⟩
  · have HT := hide ht
    have hv := hide hv0
    clear ht hv0
    have hsl := fun w => slice10 b o len cap hl hcap w
    have p10 : decide ((10 : Int) < (len : Int)) = true := by simp; omega
    clear hl hcap
    go_enter Tryz.func3, Tryz.ntmps3
    try simp only [List.append]
    go_wp2_with fail
    refine (begun14.out _ HT.out).mono ?_
    rintro e w1 ⟨rfl, hb1⟩
    have B1 := hide (next (Below.refl w.heap.size w) hb1)
    go_wp2_with fail
    refine (HI.out _).mono ?_
    rintro e w2 ⟨rfl, hb2⟩
    have B2 := hide (step (next B1.out hb2) (.cells #[.string nm, .int .i64 2, .int .i64 mn, .int .i64 mx] 25))
    have t2 := hide (F4.new w2 nm 2 mn mx 25)
    obtain ⟨w3, hw3⟩ : ∃ w3, w2.alloc (.cells #[.string nm, .int .i64 2, .int .i64 mn, .int .i64 mx] 25) = w3 := ⟨_, rfl⟩
    rw [hw3] at B2 t2
    clear hb1 hb2 B1
    go_wp2_with fail
    refine (HC.out _ _ _ (HT.out.keep B2.out) (hv.out.keep B2.out)).mono ?_
    rintro e w4 ⟨rfl, hb4⟩
    go_upto_region 7 with fail
    have B4 := hide (step (next B2.out hb4) (vO 0 0 no))
    have t4 := hide ((t2.out.keep hb4).keep ((Below.refl _ _).alloc (Nat.le_refl _) (vO 0 0 no)))
    have C4 := hide (O3.new w4 (.int .i64 0) (.int .i64 0) (.string no) 30)
    obtain ⟨w5, hw5⟩ : ∃ w5, w4.alloc (vO 0 0 no) = w5 := ⟨_, rfl⟩
    rw [hw5] at B4 t4 C4 ⊢
    clear hb4 B2 t2 hw5 hw3
    have s1 := t4.out.2.1
    have s2 := t4.out.2.2.1
    have s3 := t4.out.2.2.2
    have v0 := C4.out.1.1
    have v1 := C4.out.1.2.1
    have v2 := C4.out.1.2.2
    have veq := va_eq1 0 0 no
    go_wp2_with fail
    go_ret
    exact ⟨rfl, B4.out⟩
set_option maxHeartbeats 4000000 in
set_option maxRecDepth 100000 in
theorem ce_manyG (f : Int) (xs : List Va) (a : Option Addr) (cap : Nat) (u e0 : Int) (w : World) (ht : Tb w) (len : Nat) (hl : 10 < len) (hcap : len ≤ cap) (hx10 : xs.length = 10) (b o : Nat) (hv0 : ValsAt w (some ⟨b, o, none⟩) xs) (nm : ByteArray) (c mn mx g : Int) (hg : g = 0) (hc : c = 1 ∨ c = 2) (hq : decide ((10 : Int) < mn) = false) (hq2 : decide (mx < (10 : Int)) = true) (HI : InfoIs f nm c mn mx g) (HC : Hid (∀ (w : World) (a : Option Addr) (cap : Nat), Tb w → ValsAt w a xs → Calls Tryz.prog 6 #[.int .i64 f, .slice a xs.length cap] w fun e w' => e = .returned (.tuple #[vV 0 0 no, .int .i64 1]) ∧ Below w.heap.size w w')) : Calls Tryz.prog 3 #[.int .i64 f, .slice (some ⟨b, o, none⟩) len cap, .int .i64 u, .int .i64 e0] w fun e w' => e = .returned (.bool true) ∧ Below w.heap.size w w' := by
  subst hg
  rw [hx10] at HC
  rcases hc with rfl | rfl
  · have HT := hide ht
    have hv := hide hv0
    clear ht hv0
    have hsl := fun w => slice10 b o len cap hl hcap w
    have p10 : decide ((10 : Int) < (len : Int)) = true := by simp; omega
    clear hl hcap
    go_enter Tryz.func3, Tryz.ntmps3
    try simp only [List.append]
    go_wp2_with fail
    refine (begun14.out _ HT.out).mono ?_
    rintro e w1 ⟨rfl, hb1⟩
    have B1 := hide (next (Below.refl w.heap.size w) hb1)
    go_wp2_with fail
    refine (HI.out _).mono ?_
    rintro e w2 ⟨rfl, hb2⟩
    have B2 := hide (step (next B1.out hb2) (.cells #[.string nm, .int .i64 1, .int .i64 mn, .int .i64 mx] 25))
    have t2 := hide (F4.new w2 nm 1 mn mx 25)
    obtain ⟨w3, hw3⟩ : ∃ w3, w2.alloc (.cells #[.string nm, .int .i64 1, .int .i64 mn, .int .i64 mx] 25) = w3 := ⟨_, rfl⟩
    rw [hw3] at B2 t2
    clear hb1 hb2 B1
    go_wp2_with fail
    refine (HC.out _ _ _ (HT.out.keep B2.out) (hv.out.keep B2.out)).mono ?_
    rintro e w4 ⟨rfl, hb4⟩
    go_upto_region 7 with fail
    have B4 := hide (step (next B2.out hb4) (vO 0 0 no))
    have t4 := hide ((t2.out.keep hb4).keep ((Below.refl _ _).alloc (Nat.le_refl _) (vO 0 0 no)))
    have C4 := hide (O3.new w4 (.int .i64 0) (.int .i64 0) (.string no) 30)
    obtain ⟨w5, hw5⟩ : ∃ w5, w4.alloc (vO 0 0 no) = w5 := ⟨_, rfl⟩
    rw [hw5] at B4 t4 C4 ⊢
    clear hb4 B2 t2 hw5 hw3
    have s1 := t4.out.2.1
    have s2 := t4.out.2.2.1
    have s3 := t4.out.2.2.2
    have v0 := C4.out.1.1
    have v1 := C4.out.1.2.1
    have v2 := C4.out.1.2.2
    have veq := va_eq1 0 0 no
    go_wp2_with fail
    go_ret
    exact ⟨rfl, B4.out⟩
  · have HT := hide ht
    have hv := hide hv0
    clear ht hv0
    have hsl := fun w => slice10 b o len cap hl hcap w
    have p10 : decide ((10 : Int) < (len : Int)) = true := by simp; omega
    clear hl hcap
    go_enter Tryz.func3, Tryz.ntmps3
    try simp only [List.append]
    go_wp2_with fail
    refine (begun14.out _ HT.out).mono ?_
    rintro e w1 ⟨rfl, hb1⟩
    have B1 := hide (next (Below.refl w.heap.size w) hb1)
    go_wp2_with fail
    refine (HI.out _).mono ?_
    rintro e w2 ⟨rfl, hb2⟩
    have B2 := hide (step (next B1.out hb2) (.cells #[.string nm, .int .i64 2, .int .i64 mn, .int .i64 mx] 25))
    have t2 := hide (F4.new w2 nm 2 mn mx 25)
    obtain ⟨w3, hw3⟩ : ∃ w3, w2.alloc (.cells #[.string nm, .int .i64 2, .int .i64 mn, .int .i64 mx] 25) = w3 := ⟨_, rfl⟩
    rw [hw3] at B2 t2
    clear hb1 hb2 B1
    go_wp2_with fail
    refine (HC.out _ _ _ (HT.out.keep B2.out) (hv.out.keep B2.out)).mono ?_
    rintro e w4 ⟨rfl, hb4⟩
    go_upto_region 7 with fail
    have B4 := hide (step (next B2.out hb4) (vO 0 0 no))
    have t4 := hide ((t2.out.keep hb4).keep ((Below.refl _ _).alloc (Nat.le_refl _) (vO 0 0 no)))
    have C4 := hide (O3.new w4 (.int .i64 0) (.int .i64 0) (.string no) 30)
    obtain ⟨w5, hw5⟩ : ∃ w5, w4.alloc (vO 0 0 no) = w5 := ⟨_, rfl⟩
    rw [hw5] at B4 t4 C4 ⊢
    clear hb4 B2 t2 hw5 hw3
    have s1 := t4.out.2.1
    have s2 := t4.out.2.2.1
    have s3 := t4.out.2.2.2
    have v0 := C4.out.1.1
    have v1 := C4.out.1.2.1
    have v2 := C4.out.1.2.2
    have veq := va_eq1 0 0 no
    go_wp2_with fail
    go_ret
    exact ⟨rfl, B4.out⟩
end Go.Proofs.YtgnmkhjilecdhaaGreatDoor
namespace Go.Proofs.YtgnmkhjilecdhaaGreatDoor
open Go.RowKit Go.Sort
set_option linter.unusedVariables false


theorem below_drewN14 {B : Nat} {a w : World} (h : Below B a w) (n : Nat) : Below B a (w.drewN n) := ⟨h.os, h.tape, h.output, h.size, h.block⟩
theorem at_of {w : World} {a : Option Addr} {xs : List Va} (h : ValsAt w a xs) {j : Nat} (hj : j < xs.length) : ∃ b o, a = some ⟨b, o, none⟩ ∧ ∀ (j : Nat) (x : Va), xs[j]? = some x → VaAt w b (o + j * 3) x := by
  rcases h with h | h
  · rw [h] at hj; cases hj
  · exact h
theorem meas_j {j len : Nat} (h : (j : Int) < (len : Int)) : len - (intOf (.int .i64 ((j : Int) + 1))).toNat < len - (intOf (.int .i64 (j : Int))).toNat := by
  have h1 : (intOf (.int .i64 ((j : Int) + 1))).toNat = j + 1 := rfl
  have h2 : (intOf (.int .i64 (j : Int))).toNat = j := rfl
  rw [h1, h2]
  omega
set_option maxHeartbeats 4000000 in
set_option maxRecDepth 100000 in
theorem ce_value (f : Int) (xs : List Va) (a : Option Addr) (cap : Nat) (u e0 : Int) (w : World) (ht : Tb w) (hl : xs.length ≤ 10) (hv0 : ValsAt w a xs) (nm : ByteArray) (c mn mx : Int) (hc : c = 1 ∨ c = 2) (n : Nat) (hn : n < xs.length) (xb : Va) (hxb0 : xs[n]? = some xb) (HX0 : CallIs 7 #[xb.v] (.bool false)) (HI : InfoIs f nm c mn mx 0) (hq : decide ((xs.length : Int) < mn) = false) (hq2 : decide (mx < (xs.length : Int)) = false) (HM0 : ∀ (j : Nat) (x : Va), j < n → xs[j]? = some x → CallIs 7 #[x.v] (.bool true)) (HC : Hid (∀ (w : World) (a : Option Addr) (cap : Nat), Tb w → ValsAt w a xs → Calls Tryz.prog 6 #[.int .i64 f, .slice a xs.length cap] w fun e w' => e = .returned (.tuple #[vV 0 0 no, .int .i64 24]) ∧ Below w.heap.size w w')) : Calls Tryz.prog 3 #[.int .i64 f, .slice a xs.length cap, .int .i64 u, .int .i64 e0] w fun e w' => e = .returned (.bool true) ∧ Below w.heap.size w w' := by
  have HM := hide HM0
  clear HM0
  have hxb := hide hxb0
  have HX := hide HX0.out
  clear hxb0 HX0
  rcases hc with rfl | rfl
  · have HT := hide ht
    have hv := hide hv0
    clear ht hv0
    obtain ⟨len, hlen⟩ : ∃ len, len = xs.length := ⟨_, rfl⟩
    rw [← hlen] at hl HC hq hq2 hn ⊢
    have hlh := hide hlen
    clear hlen
    have p10 : decide ((10 : Int) < (len : Int)) = false := by simp; omega
    replace hl := hide hl
    go_enter Tryz.func3, Tryz.ntmps3
    try simp only [List.append]
    go_wp2_with fail
    refine (begun14.out _ HT.out).mono ?_
    rintro e w1 ⟨rfl, hb1⟩
    have B1 := hide (next (Below.refl w.heap.size w) hb1)
    go_wp2_with fail
    refine (HI.out _).mono ?_
    rintro e w2 ⟨rfl, hb2⟩
    have B2 := hide (step (next B1.out hb2) (.cells #[.string nm, .int .i64 1, .int .i64 mn, .int .i64 mx] 25))
    have t2 := hide (F4.new w2 nm 1 mn mx 25)
    obtain ⟨w3, hw3⟩ : ∃ w3, w2.alloc (.cells #[.string nm, .int .i64 1, .int .i64 mn, .int .i64 mx] 25) = w3 := ⟨_, rfl⟩
    rw [hw3] at B2 t2
    clear hb1 hb2 B1
    go_wp2_with fail
    refine (HC.out _ _ _ (HT.out.keep B2.out) (hv.out.keep B2.out)).mono ?_
    rintro e w4 ⟨rfl, hb4⟩
    have hnn := hide hn
    clear hn
    go_upto_region 7 with fail
    have B4 := hide (step (next B2.out hb4) (vO 0 0 no))
    have t4 := hide ((t2.out.keep hb4).keep ((Below.refl _ _).alloc (Nat.le_refl _) (vO 0 0 no)))
    have C4 := hide (O3.new w4 (.int .i64 0) (.int .i64 0) (.string no) 30)
    obtain ⟨w5, hw5⟩ : ∃ w5, w4.alloc (vO 0 0 no) = w5 := ⟨_, rfl⟩
    rw [hw5] at B4 t4 C4 ⊢
    clear hb4 B2 t2 hw5 hw3
    have s1 := t4.out.2.1
    have s2 := t4.out.2.2.1
    have s3 := t4.out.2.2.2
    have v0 := C4.out.1.1
    have v1 := C4.out.1.2.1
    have v2 := C4.out.1.2.2
    replace hv := hide (hv.out.keep B4.out)
    replace HT := hide (HT.out.keep B4.out)
    go_wp2_with fail
    clear s1 s2 s3 v0 v1 v2
    go_loopw [13, 14] (fun q p wr => ∃ (j : Nat) (G : Int), j ≤ n ∧ q = .int .i64 G ∧ p = .int .i64 (j : Int) ∧ Hid (G = fiV xs j) ∧ Hid (Below w5.heap.size w5 wr)) (fun _ p _ => len - (intOf p).toNat)
    case atStart => exact ⟨0, -1, Nat.zero_le _, rfl, rfl, hide rfl, hide (Below.refl _ _)⟩
    case round =>
      obtain ⟨j, G, hj, rfl, rfl, hG, HB⟩ := hrel
      have hl10 := hl.out
      by_cases hlt : j < n
      · have hj' : j < xs.length := by have := hlh.out; have := hnn.out; omega
        have p0 : (j : Int) < (len : Int) := by have := hlh.out; omega
        obtain ⟨b, off, rfl, ho⟩ := at_of hv.out hj'
        obtain ⟨x, hx⟩ : ∃ x, xs[j]? = some x := ⟨_, List.getElem?_eq_getElem hj'⟩
        have hst := hide (fiV_step xs j x hx)
        have A := (ho j x hx).keep HB.out
        have HM1 := HM.out j x hlt hx
        obtain ⟨k', i', t'⟩ := x
        have AH := hide A
        obtain ⟨A0, A1, A2⟩ := A
        have wj : Hid (wrap64 ((j : Int) + 1) = (j : Int) + 1) := hide (IntWalk.wrap64_in _ ⟨by omega, by omega⟩)
        clear ho hx hl10
        go_wp2_with fail
        refine (HM1.out _).mono ?_
        rintro e w6 ⟨rfl, hb6⟩
        have HB' := hide (next HB.out hb6)
        have A0' := (AH.out.keep hb6).1
        clear hb6 A0 A1 A2 AH HM1
        cases hneg : decide (G < 0) with
        | false =>
          have hs2 : Hid (fiV xs (j + 1) = G) := hide (by rw [hst.out, if_neg (by rintro ⟨h, _⟩; rw [← hG.out] at h; simp at hneg; omega), hG.out])
          go_wp2_with fail
          refine ⟨⟨j + 1, G, hlt, rfl, by rw [wj.out]; rfl, hide hs2.out.symm, HB'⟩, ?_⟩
          rw [wj.out]
          exact meas_j p0
        | true =>
          cases hk4 : (k' == 4) with
          | false =>
            have hs2 : Hid (fiV xs (j + 1) = G) := hide (by rw [hst.out, if_neg (by rintro ⟨_, h⟩; have h' : k' = 4 := h; rw [h'] at hk4; cases hk4), hG.out])
            go_wp2_with fail
            refine ⟨⟨j + 1, G, hlt, rfl, by rw [wj.out]; rfl, hide hs2.out.symm, HB'⟩, ?_⟩
            rw [wj.out]
            exact meas_j p0
          | true =>
            have hs2 : Hid (fiV xs (j + 1) = (j : Int)) := hide (by rw [hst.out, if_pos ⟨by rw [← hG.out]; simpa using hneg, by simpa using hk4⟩])
            go_wp2_with fail
            refine ⟨⟨j + 1, (j : Int), hlt, rfl, by rw [wj.out]; rfl, hide hs2.out.symm, HB'⟩, ?_⟩
            rw [wj.out]
            exact meas_j p0
      · obtain rfl : j = n := by omega
        have hj' : j < xs.length := by have := hlh.out; have := hnn.out; omega
        have p0 : (j : Int) < (len : Int) := by have := hlh.out; omega
        obtain ⟨b, off, rfl, ho⟩ := at_of hv.out hj'
        obtain ⟨A0, A1, A2⟩ := (ho j xb hxb.out).keep HB.out
        obtain ⟨k', i', t'⟩ := xb
        clear ho hl10
        go_wp2_with fail
        refine (HX.out _).mono ?_
        rintro e w6 ⟨rfl, hb6⟩
        have Bz := hide (next B4.out (next HB.out hb6))
        have C6 := hide ((C4.out.keep HB.out).keep hb6)
        clear hb6 A0 A1 A2
        have z0 := C6.out.1.1
        have z1 := C6.out.1.2.1
        have z2 := C6.out.1.2.2
        have veq := va_eq1 0 0 no
        go_wp2_with fail
        go_ret
        exact ⟨rfl, Bz.out⟩
  · have HT := hide ht
    have hv := hide hv0
    clear ht hv0
    obtain ⟨len, hlen⟩ : ∃ len, len = xs.length := ⟨_, rfl⟩
    rw [← hlen] at hl HC hq hq2 hn ⊢
    have hlh := hide hlen
    clear hlen
    have p10 : decide ((10 : Int) < (len : Int)) = false := by simp; omega
    replace hl := hide hl
    go_enter Tryz.func3, Tryz.ntmps3
    try simp only [List.append]
    go_wp2_with fail
    refine (begun14.out _ HT.out).mono ?_
    rintro e w1 ⟨rfl, hb1⟩
    have B1 := hide (next (Below.refl w.heap.size w) hb1)
    go_wp2_with fail
    refine (HI.out _).mono ?_
    rintro e w2 ⟨rfl, hb2⟩
    have B2 := hide (step (next B1.out hb2) (.cells #[.string nm, .int .i64 2, .int .i64 mn, .int .i64 mx] 25))
    have t2 := hide (F4.new w2 nm 2 mn mx 25)
    obtain ⟨w3, hw3⟩ : ∃ w3, w2.alloc (.cells #[.string nm, .int .i64 2, .int .i64 mn, .int .i64 mx] 25) = w3 := ⟨_, rfl⟩
    rw [hw3] at B2 t2
    clear hb1 hb2 B1
    go_wp2_with fail
    refine (HC.out _ _ _ (HT.out.keep B2.out) (hv.out.keep B2.out)).mono ?_
    rintro e w4 ⟨rfl, hb4⟩
    have hnn := hide hn
    clear hn
    go_upto_region 7 with fail
    have B4 := hide (step (next B2.out hb4) (vO 0 0 no))
    have t4 := hide ((t2.out.keep hb4).keep ((Below.refl _ _).alloc (Nat.le_refl _) (vO 0 0 no)))
    have C4 := hide (O3.new w4 (.int .i64 0) (.int .i64 0) (.string no) 30)
    obtain ⟨w5, hw5⟩ : ∃ w5, w4.alloc (vO 0 0 no) = w5 := ⟨_, rfl⟩
    rw [hw5] at B4 t4 C4 ⊢
    clear hb4 B2 t2 hw5 hw3
    have s1 := t4.out.2.1
    have s2 := t4.out.2.2.1
    have s3 := t4.out.2.2.2
    have v0 := C4.out.1.1
    have v1 := C4.out.1.2.1
    have v2 := C4.out.1.2.2
    replace hv := hide (hv.out.keep B4.out)
    replace HT := hide (HT.out.keep B4.out)
    go_wp2_with fail
    clear s1 s2 s3 v0 v1 v2
    go_loopw [13, 14] (fun q p wr => ∃ (j : Nat) (G : Int), j ≤ n ∧ q = .int .i64 G ∧ p = .int .i64 (j : Int) ∧ Hid (G = fiV xs j) ∧ Hid (Below w5.heap.size w5 wr)) (fun _ p _ => len - (intOf p).toNat)
    case atStart => exact ⟨0, -1, Nat.zero_le _, rfl, rfl, hide rfl, hide (Below.refl _ _)⟩
    case round =>
      obtain ⟨j, G, hj, rfl, rfl, hG, HB⟩ := hrel
      have hl10 := hl.out
      by_cases hlt : j < n
      · have hj' : j < xs.length := by have := hlh.out; have := hnn.out; omega
        have p0 : (j : Int) < (len : Int) := by have := hlh.out; omega
        obtain ⟨b, off, rfl, ho⟩ := at_of hv.out hj'
        obtain ⟨x, hx⟩ : ∃ x, xs[j]? = some x := ⟨_, List.getElem?_eq_getElem hj'⟩
        have hst := hide (fiV_step xs j x hx)
        have A := (ho j x hx).keep HB.out
        have HM1 := HM.out j x hlt hx
        obtain ⟨k', i', t'⟩ := x
        have AH := hide A
        obtain ⟨A0, A1, A2⟩ := A
        have wj : Hid (wrap64 ((j : Int) + 1) = (j : Int) + 1) := hide (IntWalk.wrap64_in _ ⟨by omega, by omega⟩)
        clear ho hx hl10
        go_wp2_with fail
        refine (HM1.out _).mono ?_
        rintro e w6 ⟨rfl, hb6⟩
        have HB' := hide (next HB.out hb6)
        have A0' := (AH.out.keep hb6).1
        clear hb6 A0 A1 A2 AH HM1
        cases hneg : decide (G < 0) with
        | false =>
          have hs2 : Hid (fiV xs (j + 1) = G) := hide (by rw [hst.out, if_neg (by rintro ⟨h, _⟩; rw [← hG.out] at h; simp at hneg; omega), hG.out])
          go_wp2_with fail
          refine ⟨⟨j + 1, G, hlt, rfl, by rw [wj.out]; rfl, hide hs2.out.symm, HB'⟩, ?_⟩
          rw [wj.out]
          exact meas_j p0
        | true =>
          cases hk4 : (k' == 4) with
          | false =>
            have hs2 : Hid (fiV xs (j + 1) = G) := hide (by rw [hst.out, if_neg (by rintro ⟨_, h⟩; have h' : k' = 4 := h; rw [h'] at hk4; cases hk4), hG.out])
            go_wp2_with fail
            refine ⟨⟨j + 1, G, hlt, rfl, by rw [wj.out]; rfl, hide hs2.out.symm, HB'⟩, ?_⟩
            rw [wj.out]
            exact meas_j p0
          | true =>
            have hs2 : Hid (fiV xs (j + 1) = (j : Int)) := hide (by rw [hst.out, if_pos ⟨by rw [← hG.out]; simpa using hneg, by simpa using hk4⟩])
            go_wp2_with fail
            refine ⟨⟨j + 1, (j : Int), hlt, rfl, by rw [wj.out]; rfl, hide hs2.out.symm, HB'⟩, ?_⟩
            rw [wj.out]
            exact meas_j p0
      · obtain rfl : j = n := by omega
        have hj' : j < xs.length := by have := hlh.out; have := hnn.out; omega
        have p0 : (j : Int) < (len : Int) := by have := hlh.out; omega
        obtain ⟨b, off, rfl, ho⟩ := at_of hv.out hj'
        obtain ⟨A0, A1, A2⟩ := (ho j xb hxb.out).keep HB.out
        obtain ⟨k', i', t'⟩ := xb
        clear ho hl10
        go_wp2_with fail
        refine (HX.out _).mono ?_
        rintro e w6 ⟨rfl, hb6⟩
        have Bz := hide (next B4.out (next HB.out hb6))
        have C6 := hide ((C4.out.keep HB.out).keep hb6)
        clear hb6 A0 A1 A2
        have z0 := C6.out.1.1
        have z1 := C6.out.1.2.1
        have z2 := C6.out.1.2.2
        have veq := va_eq1 0 0 no
        go_wp2_with fail
        go_ret
        exact ⟨rfl, Bz.out⟩
end Go.Proofs.YtgnmkhjilecdhaaGreatDoor
namespace Go.Proofs.YtgnmkhjilecdhaaGreatDoor
open Go.RowKit Go.Sort
set_option linter.unusedVariables false


set_option maxHeartbeats 4000000 in
set_option maxRecDepth 100000 in
theorem ce_ask (f : Int) (xs : List Va) (a : Option Addr) (cap : Nat) (u e0 : Int) (w : World) (ht : Tb w) (hl : xs.length ≤ 10) (hv0 : ValsAt w a xs) (nm : ByteArray) (c mn mx : Int) (hc : c = 2) (k i : Int) (t : ByteArray) (HMv : CallIs 7 #[vV k i t] (.bool true)) (hk0 : (k == 0) = false) (hk2 : (k == 2) = true) (HI : InfoIs f nm c mn mx 0) (hq : decide ((xs.length : Int) < mn) = false) (hq2 : decide (mx < (xs.length : Int)) = false) (HM0 : ∀ (j : Nat) (x : Va), xs[j]? = some x → CallIs 7 #[x.v] (.bool true)) (HC : Hid (∀ (w : World) (a : Option Addr) (cap : Nat), Tb w → ValsAt w a xs → Calls Tryz.prog 6 #[.int .i64 f, .slice a xs.length cap] w fun e w' => e = .returned (.tuple #[vV k i t, .int .i64 0]) ∧ Below w.heap.size w w')) : Calls Tryz.prog 3 #[.int .i64 f, .slice a xs.length cap, .int .i64 u, .int .i64 e0] w fun e w' => e = .returned (.bool true) ∧ Below w.heap.size w w' := by
  have HM := hide HM0
  clear HM0
  subst hc
  have HT := hide ht
  have hv := hide hv0
  clear ht hv0
  obtain ⟨len, hlen⟩ : ∃ len, len = xs.length := ⟨_, rfl⟩
  rw [← hlen] at hl HC hq hq2 ⊢
  have hlh := hide hlen
  clear hlen
  have p10 : decide ((10 : Int) < (len : Int)) = false := by simp; omega
  replace hl := hide hl
  go_enter Tryz.func3, Tryz.ntmps3
  try simp only [List.append]
  go_wp2_with fail
  refine (begun14.out _ HT.out).mono ?_
  rintro e w1 ⟨rfl, hb1⟩
  have B1 := hide (next (Below.refl w.heap.size w) hb1)
  go_wp2_with fail
  refine (HI.out _).mono ?_
  rintro e w2 ⟨rfl, hb2⟩
  have B2 := hide (step (next B1.out hb2) (.cells #[.string nm, .int .i64 2, .int .i64 mn, .int .i64 mx] 25))
  have t2 := hide (F4.new w2 nm 2 mn mx 25)
  obtain ⟨w3, hw3⟩ : ∃ w3, w2.alloc (.cells #[.string nm, .int .i64 2, .int .i64 mn, .int .i64 mx] 25) = w3 := ⟨_, rfl⟩
  rw [hw3] at B2 t2
  clear hb1 hb2 B1
  go_wp2_with fail
  refine (HC.out _ _ _ (HT.out.keep B2.out) (hv.out.keep B2.out)).mono ?_
  rintro e w4 ⟨rfl, hb4⟩
  go_upto_region 7 with fail
  have B4 := hide (step (next B2.out hb4) (vO k i t))
  have t4 := hide ((t2.out.keep hb4).keep ((Below.refl _ _).alloc (Nat.le_refl _) (vO k i t)))
  have C4 := hide (O3.new w4 (.int .i64 k) (.int .i64 i) (.string t) 30)
  obtain ⟨w5, hw5⟩ : ∃ w5, w4.alloc (vO k i t) = w5 := ⟨_, rfl⟩
  rw [hw5] at B4 t4 C4 ⊢
  clear hb4 B2 t2 hw5 hw3
  have s1 := t4.out.2.1
  have s2 := t4.out.2.2.1
  have s3 := t4.out.2.2.2
  have v0 := C4.out.1.1
  have v1 := C4.out.1.2.1
  have v2 := C4.out.1.2.2
  replace hv := hide (hv.out.keep B4.out)
  replace HT := hide (HT.out.keep B4.out)
  go_wp2_with fail
  clear s1 s2 s3 v0 v1 v2
  go_loopw [13, 14] (fun q p wr => ∃ (j : Nat) (G : Int), j ≤ len ∧ q = .int .i64 G ∧ p = .int .i64 (j : Int) ∧ Hid (G = fiV xs j) ∧ Hid (Below w5.heap.size w5 wr)) (fun _ p _ => len - (intOf p).toNat)
  case atStart => exact ⟨0, -1, Nat.zero_le _, rfl, rfl, hide rfl, hide (Below.refl _ _)⟩
  case round =>
    obtain ⟨j, G, hj, rfl, rfl, hG, HB⟩ := hrel
    have hl10 := hl.out
    by_cases hlt : j < len
    · have hj' : j < xs.length := by have := hlh.out; omega
      have p0 : (j : Int) < (len : Int) := by have := hlh.out; omega
      obtain ⟨b, off, rfl, ho⟩ := at_of hv.out hj'
      obtain ⟨x, hx⟩ : ∃ x, xs[j]? = some x := ⟨_, List.getElem?_eq_getElem hj'⟩
      have hst := hide (fiV_step xs j x hx)
      have A := (ho j x hx).keep HB.out
      have HM1 := HM.out j x hx
      obtain ⟨k', i', t'⟩ := x
      have AH := hide A
      obtain ⟨A0, A1, A2⟩ := A
      have wj : Hid (wrap64 ((j : Int) + 1) = (j : Int) + 1) := hide (IntWalk.wrap64_in _ ⟨by omega, by omega⟩)
      clear ho hx hl10
      go_wp2_with fail
      refine (HM1.out _).mono ?_
      rintro e w6 ⟨rfl, hb6⟩
      have HB' := hide (next HB.out hb6)
      have A0' := (AH.out.keep hb6).1
      clear hb6 A0 A1 A2 AH HM1
      cases hneg : decide (G < 0) with
      | false =>
        have hs2 : Hid (fiV xs (j + 1) = G) := hide (by rw [hst.out, if_neg (by rintro ⟨h, _⟩; rw [← hG.out] at h; simp at hneg; omega), hG.out])
        go_wp2_with fail
        refine ⟨⟨j + 1, G, hlt, rfl, by rw [wj.out]; rfl, hide hs2.out.symm, HB'⟩, ?_⟩
        rw [wj.out]
        exact meas_j p0
      | true =>
        cases hk4 : (k' == 4) with
        | false =>
          have hs2 : Hid (fiV xs (j + 1) = G) := hide (by rw [hst.out, if_neg (by rintro ⟨_, h⟩; have h' : k' = 4 := h; rw [h'] at hk4; cases hk4), hG.out])
          go_wp2_with fail
          refine ⟨⟨j + 1, G, hlt, rfl, by rw [wj.out]; rfl, hide hs2.out.symm, HB'⟩, ?_⟩
          rw [wj.out]
          exact meas_j p0
        | true =>
          have hs2 : Hid (fiV xs (j + 1) = (j : Int)) := hide (by rw [hst.out, if_pos ⟨by rw [← hG.out]; simpa using hneg, by simpa using hk4⟩])
          go_wp2_with fail
          refine ⟨⟨j + 1, (j : Int), hlt, rfl, by rw [wj.out]; rfl, hide hs2.out.symm, HB'⟩, ?_⟩
          rw [wj.out]
          exact meas_j p0
    · obtain rfl : j = len := by omega
      have hGx := hide (show G = fiV xs xs.length by rw [← hlh.out]; exact hG.out)
      have C6 := hide (C4.out.keep HB.out)
      have t6 := hide (t4.out.keep HB.out)
      have B6 := hide (next B4.out HB.out)
      replace hv := hide (hv.out.keep HB.out)
      replace HT := hide (HT.out.keep HB.out)
      have v0 := C6.out.1.1
      have v1 := C6.out.1.2.1
      have v2 := C6.out.1.2.2
      clear hl10
      go_wp2_with fail
      clear v0 v1 v2
      refine (HMv.out _).mono ?_
      rintro e w7 ⟨rfl, hb7⟩
      have B7 := hide (next B6.out hb7)
      have K7 := hide hb7
      have C7 := hide (C6.out.keep K7.out)
      have t7 := hide (t6.out.keep K7.out)
      replace hv := hide (hv.out.keep K7.out)
      replace HT := hide (HT.out.keep K7.out)
      clear hb7 K7 C6 t6 B6
      have v0 := C7.out.1.1
      have s1 := t7.out.2.1
      go_wp2_with fail
      go_ret
      exact ⟨rfl, B7.out⟩
set_option maxHeartbeats 4000000 in
set_option maxRecDepth 100000 in
theorem ce_first (f : Int) (xs : List Va) (a : Option Addr) (cap : Nat) (u e0 : Int) (w : World) (ht : Tb w) (hl : xs.length ≤ 10) (hv0 : ValsAt w a xs) (nm : ByteArray) (c mn mx : Int) (hc : c = 1) (k i : Int) (t : ByteArray) (HMv : CallIs 7 #[vV k i t] (.bool true)) (hk0 : (k == 0) = false) (n : Nat) (hn0 : n < xs.length) (hfi : fiV xs xs.length = (n : Int)) (hxn : xs[n]? = some ⟨k, i, t⟩) (HI : InfoIs f nm c mn mx 0) (hq : decide ((xs.length : Int) < mn) = false) (hq2 : decide (mx < (xs.length : Int)) = false) (HM0 : ∀ (j : Nat) (x : Va), xs[j]? = some x → CallIs 7 #[x.v] (.bool true)) (HC : Hid (∀ (w : World) (a : Option Addr) (cap : Nat), Tb w → ValsAt w a xs → Calls Tryz.prog 6 #[.int .i64 f, .slice a xs.length cap] w fun e w' => e = .returned (.tuple #[vV k i t, .int .i64 0]) ∧ Below w.heap.size w w')) : Calls Tryz.prog 3 #[.int .i64 f, .slice a xs.length cap, .int .i64 u, .int .i64 e0] w fun e w' => e = .returned (.bool true) ∧ Below w.heap.size w w' := by
  have HM := hide HM0
  clear HM0
  have hnh := hide hn0
  have hfh := hide hfi
  have hxh := hide hxn
  clear hn0 hfi hxn
  subst hc
  have HT := hide ht
  have hv := hide hv0
  clear ht hv0
  obtain ⟨len, hlen⟩ : ∃ len, len = xs.length := ⟨_, rfl⟩
  rw [← hlen] at hl HC hq hq2 ⊢
  have hlh := hide hlen
  clear hlen
  have p10 : decide ((10 : Int) < (len : Int)) = false := by simp; omega
  replace hl := hide hl
  go_enter Tryz.func3, Tryz.ntmps3
  try simp only [List.append]
  go_wp2_with fail
  refine (begun14.out _ HT.out).mono ?_
  rintro e w1 ⟨rfl, hb1⟩
  have B1 := hide (next (Below.refl w.heap.size w) hb1)
  go_wp2_with fail
  refine (HI.out _).mono ?_
  rintro e w2 ⟨rfl, hb2⟩
  have B2 := hide (step (next B1.out hb2) (.cells #[.string nm, .int .i64 1, .int .i64 mn, .int .i64 mx] 25))
  have t2 := hide (F4.new w2 nm 1 mn mx 25)
  obtain ⟨w3, hw3⟩ : ∃ w3, w2.alloc (.cells #[.string nm, .int .i64 1, .int .i64 mn, .int .i64 mx] 25) = w3 := ⟨_, rfl⟩
  rw [hw3] at B2 t2
  clear hb1 hb2 B1
  go_wp2_with fail
  refine (HC.out _ _ _ (HT.out.keep B2.out) (hv.out.keep B2.out)).mono ?_
  rintro e w4 ⟨rfl, hb4⟩
  go_upto_region 7 with fail
  have B4 := hide (step (next B2.out hb4) (vO k i t))
  have t4 := hide ((t2.out.keep hb4).keep ((Below.refl _ _).alloc (Nat.le_refl _) (vO k i t)))
  have C4 := hide (O3.new w4 (.int .i64 k) (.int .i64 i) (.string t) 30)
  obtain ⟨w5, hw5⟩ : ∃ w5, w4.alloc (vO k i t) = w5 := ⟨_, rfl⟩
  rw [hw5] at B4 t4 C4 ⊢
  clear hb4 B2 t2 hw5 hw3
  have s1 := t4.out.2.1
  have s2 := t4.out.2.2.1
  have s3 := t4.out.2.2.2
  have v0 := C4.out.1.1
  have v1 := C4.out.1.2.1
  have v2 := C4.out.1.2.2
  replace hv := hide (hv.out.keep B4.out)
  replace HT := hide (HT.out.keep B4.out)
  go_wp2_with fail
  clear s1 s2 s3 v0 v1 v2
  go_loopw [13, 14] (fun q p wr => ∃ (j : Nat) (G : Int), j ≤ len ∧ q = .int .i64 G ∧ p = .int .i64 (j : Int) ∧ Hid (G = fiV xs j) ∧ Hid (Below w5.heap.size w5 wr)) (fun _ p _ => len - (intOf p).toNat)
  case atStart => exact ⟨0, -1, Nat.zero_le _, rfl, rfl, hide rfl, hide (Below.refl _ _)⟩
  case round =>
    obtain ⟨j, G, hj, rfl, rfl, hG, HB⟩ := hrel
    have hl10 := hl.out
    by_cases hlt : j < len
    · have hj' : j < xs.length := by have := hlh.out; omega
      have p0 : (j : Int) < (len : Int) := by have := hlh.out; omega
      obtain ⟨b, off, rfl, ho⟩ := at_of hv.out hj'
      obtain ⟨x, hx⟩ : ∃ x, xs[j]? = some x := ⟨_, List.getElem?_eq_getElem hj'⟩
      have hst := hide (fiV_step xs j x hx)
      have A := (ho j x hx).keep HB.out
      have HM1 := HM.out j x hx
      obtain ⟨k', i', t'⟩ := x
      have AH := hide A
      obtain ⟨A0, A1, A2⟩ := A
      have wj : Hid (wrap64 ((j : Int) + 1) = (j : Int) + 1) := hide (IntWalk.wrap64_in _ ⟨by omega, by omega⟩)
      clear ho hx hl10
      go_wp2_with fail
      refine (HM1.out _).mono ?_
      rintro e w6 ⟨rfl, hb6⟩
      have HB' := hide (next HB.out hb6)
      have A0' := (AH.out.keep hb6).1
      clear hb6 A0 A1 A2 AH HM1
      cases hneg : decide (G < 0) with
      | false =>
        have hs2 : Hid (fiV xs (j + 1) = G) := hide (by rw [hst.out, if_neg (by rintro ⟨h, _⟩; rw [← hG.out] at h; simp at hneg; omega), hG.out])
        go_wp2_with fail
        refine ⟨⟨j + 1, G, hlt, rfl, by rw [wj.out]; rfl, hide hs2.out.symm, HB'⟩, ?_⟩
        rw [wj.out]
        exact meas_j p0
      | true =>
        cases hk4 : (k' == 4) with
        | false =>
          have hs2 : Hid (fiV xs (j + 1) = G) := hide (by rw [hst.out, if_neg (by rintro ⟨_, h⟩; have h' : k' = 4 := h; rw [h'] at hk4; cases hk4), hG.out])
          go_wp2_with fail
          refine ⟨⟨j + 1, G, hlt, rfl, by rw [wj.out]; rfl, hide hs2.out.symm, HB'⟩, ?_⟩
          rw [wj.out]
          exact meas_j p0
        | true =>
          have hs2 : Hid (fiV xs (j + 1) = (j : Int)) := hide (by rw [hst.out, if_pos ⟨by rw [← hG.out]; simpa using hneg, by simpa using hk4⟩])
          go_wp2_with fail
          refine ⟨⟨j + 1, (j : Int), hlt, rfl, by rw [wj.out]; rfl, hide hs2.out.symm, HB'⟩, ?_⟩
          rw [wj.out]
          exact meas_j p0
    · obtain rfl : j = len := by omega
      have hGx := hide (show G = fiV xs xs.length by rw [← hlh.out]; exact hG.out)
      have C6 := hide (C4.out.keep HB.out)
      have t6 := hide (t4.out.keep HB.out)
      have B6 := hide (next B4.out HB.out)
      replace hv := hide (hv.out.keep HB.out)
      replace HT := hide (HT.out.keep HB.out)
      have v0 := C6.out.1.1
      have v1 := C6.out.1.2.1
      have v2 := C6.out.1.2.2
      clear hl10
      go_wp2_with fail
      clear v0 v1 v2
      refine (HMv.out _).mono ?_
      rintro e w7 ⟨rfl, hb7⟩
      have B7 := hide (next B6.out hb7)
      have K7 := hide hb7
      have C7 := hide (C6.out.keep K7.out)
      have t7 := hide (t6.out.keep K7.out)
      replace hv := hide (hv.out.keep K7.out)
      replace HT := hide (HT.out.keep K7.out)
      clear hb7 K7 C6 t6 B6
      have v0 := C7.out.1.1
      have s1 := t7.out.2.1
      obtain rfl : G = (n : Int) := hGx.out.trans hfh.out
      have hn' := hnh.out
      have hn'' : (n : Int) < (j : Int) := by have := hlh.out; omega
      obtain ⟨b, off, rfl, ho⟩ := at_of hv.out hn'
      obtain ⟨A0, A1, A2⟩ := ho n _ hxh.out
      have v1 := C7.out.1.2.1
      have v2 := C7.out.1.2.2
      have veq := va_eq1 k i t
      clear ho
      go_wp2_with fail
      go_quiet (fail)
      go_wp2_with fail
      go_ret
      exact ⟨rfl, below_drewN14 B7.out _⟩
set_option maxHeartbeats 4000000 in
set_option maxRecDepth 100000 in
theorem ce_end (f : Int) (xs : List Va) (a : Option Addr) (cap : Nat) (u e0 : Int) (w : World) (ht : Tb w) (hl : xs.length ≤ 10) (hv0 : ValsAt w a xs) (nm : ByteArray) (c mn mx : Int) (hc : c = 1) (k i : Int) (t : ByteArray) (HMv : CallIs 7 #[vV k i t] (.bool true)) (hk0 : (k == 0) = false) (hfi : fiV xs xs.length = -1) (hend : xs.length = 0 ∨ e0 < 1 ∨ 6 < e0) (HI : InfoIs f nm c mn mx 0) (hq : decide ((xs.length : Int) < mn) = false) (hq2 : decide (mx < (xs.length : Int)) = false) (HM0 : ∀ (j : Nat) (x : Va), xs[j]? = some x → CallIs 7 #[x.v] (.bool true)) (HC : Hid (∀ (w : World) (a : Option Addr) (cap : Nat), Tb w → ValsAt w a xs → Calls Tryz.prog 6 #[.int .i64 f, .slice a xs.length cap] w fun e w' => e = .returned (.tuple #[vV k i t, .int .i64 0]) ∧ Below w.heap.size w w')) : Calls Tryz.prog 3 #[.int .i64 f, .slice a xs.length cap, .int .i64 u, .int .i64 e0] w fun e w' => e = .returned (.bool true) ∧ Below w.heap.size w w' := by
  have HM := hide HM0
  clear HM0
  have hfh := hide hfi
  have heh := hide hend
  clear hfi hend
  subst hc
  have HT := hide ht
  have hv := hide hv0
  clear ht hv0
  obtain ⟨len, hlen⟩ : ∃ len, len = xs.length := ⟨_, rfl⟩
  rw [← hlen] at hl HC hq hq2 ⊢
  have hlh := hide hlen
  clear hlen
  have p10 : decide ((10 : Int) < (len : Int)) = false := by simp; omega
  replace hl := hide hl
  go_enter Tryz.func3, Tryz.ntmps3
  try simp only [List.append]
  go_wp2_with fail
  refine (begun14.out _ HT.out).mono ?_
  rintro e w1 ⟨rfl, hb1⟩
  have B1 := hide (next (Below.refl w.heap.size w) hb1)
  go_wp2_with fail
  refine (HI.out _).mono ?_
  rintro e w2 ⟨rfl, hb2⟩
  have B2 := hide (step (next B1.out hb2) (.cells #[.string nm, .int .i64 1, .int .i64 mn, .int .i64 mx] 25))
  have t2 := hide (F4.new w2 nm 1 mn mx 25)
  obtain ⟨w3, hw3⟩ : ∃ w3, w2.alloc (.cells #[.string nm, .int .i64 1, .int .i64 mn, .int .i64 mx] 25) = w3 := ⟨_, rfl⟩
  rw [hw3] at B2 t2
  clear hb1 hb2 B1
  go_wp2_with fail
  refine (HC.out _ _ _ (HT.out.keep B2.out) (hv.out.keep B2.out)).mono ?_
  rintro e w4 ⟨rfl, hb4⟩
  go_upto_region 7 with fail
  have B4 := hide (step (next B2.out hb4) (vO k i t))
  have t4 := hide ((t2.out.keep hb4).keep ((Below.refl _ _).alloc (Nat.le_refl _) (vO k i t)))
  have C4 := hide (O3.new w4 (.int .i64 k) (.int .i64 i) (.string t) 30)
  obtain ⟨w5, hw5⟩ : ∃ w5, w4.alloc (vO k i t) = w5 := ⟨_, rfl⟩
  rw [hw5] at B4 t4 C4 ⊢
  clear hb4 B2 t2 hw5 hw3
  have s1 := t4.out.2.1
  have s2 := t4.out.2.2.1
  have s3 := t4.out.2.2.2
  have v0 := C4.out.1.1
  have v1 := C4.out.1.2.1
  have v2 := C4.out.1.2.2
  replace hv := hide (hv.out.keep B4.out)
  replace HT := hide (HT.out.keep B4.out)
  go_wp2_with fail
  clear s1 s2 s3 v0 v1 v2
  go_loopw [13, 14] (fun q p wr => ∃ (j : Nat) (G : Int), j ≤ len ∧ q = .int .i64 G ∧ p = .int .i64 (j : Int) ∧ Hid (G = fiV xs j) ∧ Hid (Below w5.heap.size w5 wr)) (fun _ p _ => len - (intOf p).toNat)
  case atStart => exact ⟨0, -1, Nat.zero_le _, rfl, rfl, hide rfl, hide (Below.refl _ _)⟩
  case round =>
    obtain ⟨j, G, hj, rfl, rfl, hG, HB⟩ := hrel
    have hl10 := hl.out
    by_cases hlt : j < len
    · have hj' : j < xs.length := by have := hlh.out; omega
      have p0 : (j : Int) < (len : Int) := by have := hlh.out; omega
      obtain ⟨b, off, rfl, ho⟩ := at_of hv.out hj'
      obtain ⟨x, hx⟩ : ∃ x, xs[j]? = some x := ⟨_, List.getElem?_eq_getElem hj'⟩
      have hst := hide (fiV_step xs j x hx)
      have A := (ho j x hx).keep HB.out
      have HM1 := HM.out j x hx
      obtain ⟨k', i', t'⟩ := x
      have AH := hide A
      obtain ⟨A0, A1, A2⟩ := A
      have wj : Hid (wrap64 ((j : Int) + 1) = (j : Int) + 1) := hide (IntWalk.wrap64_in _ ⟨by omega, by omega⟩)
      clear ho hx hl10
      go_wp2_with fail
      refine (HM1.out _).mono ?_
      rintro e w6 ⟨rfl, hb6⟩
      have HB' := hide (next HB.out hb6)
      have A0' := (AH.out.keep hb6).1
      clear hb6 A0 A1 A2 AH HM1
      cases hneg : decide (G < 0) with
      | false =>
        have hs2 : Hid (fiV xs (j + 1) = G) := hide (by rw [hst.out, if_neg (by rintro ⟨h, _⟩; rw [← hG.out] at h; simp at hneg; omega), hG.out])
        go_wp2_with fail
        refine ⟨⟨j + 1, G, hlt, rfl, by rw [wj.out]; rfl, hide hs2.out.symm, HB'⟩, ?_⟩
        rw [wj.out]
        exact meas_j p0
      | true =>
        cases hk4 : (k' == 4) with
        | false =>
          have hs2 : Hid (fiV xs (j + 1) = G) := hide (by rw [hst.out, if_neg (by rintro ⟨_, h⟩; have h' : k' = 4 := h; rw [h'] at hk4; cases hk4), hG.out])
          go_wp2_with fail
          refine ⟨⟨j + 1, G, hlt, rfl, by rw [wj.out]; rfl, hide hs2.out.symm, HB'⟩, ?_⟩
          rw [wj.out]
          exact meas_j p0
        | true =>
          have hs2 : Hid (fiV xs (j + 1) = (j : Int)) := hide (by rw [hst.out, if_pos ⟨by rw [← hG.out]; simpa using hneg, by simpa using hk4⟩])
          go_wp2_with fail
          refine ⟨⟨j + 1, (j : Int), hlt, rfl, by rw [wj.out]; rfl, hide hs2.out.symm, HB'⟩, ?_⟩
          rw [wj.out]
          exact meas_j p0
    · obtain rfl : j = len := by omega
      have hGx := hide (show G = fiV xs xs.length by rw [← hlh.out]; exact hG.out)
      have C6 := hide (C4.out.keep HB.out)
      have t6 := hide (t4.out.keep HB.out)
      have B6 := hide (next B4.out HB.out)
      replace hv := hide (hv.out.keep HB.out)
      replace HT := hide (HT.out.keep HB.out)
      have v0 := C6.out.1.1
      have v1 := C6.out.1.2.1
      have v2 := C6.out.1.2.2
      clear hl10
      go_wp2_with fail
      clear v0 v1 v2
      refine (HMv.out _).mono ?_
      rintro e w7 ⟨rfl, hb7⟩
      have B7 := hide (next B6.out hb7)
      have K7 := hide hb7
      have C7 := hide (C6.out.keep K7.out)
      have t7 := hide (t6.out.keep K7.out)
      replace hv := hide (hv.out.keep K7.out)
      replace HT := hide (HT.out.keep K7.out)
      clear hb7 K7 C6 t6 B6
      have v0 := C7.out.1.1
      have s1 := t7.out.2.1
      obtain rfl : G = -1 := hGx.out.trans hfh.out
      have hz := hlh.out
      rcases heh.out with he | he | he
      · have q1 : ((j : Int) == 0) = true := by simp; omega
        clear hz he
        go_wp2_with fail
        go_ret
        exact ⟨rfl, B7.out⟩
      · have q2 : decide (e0 < 1) = true := by simp; omega
        cases q1 : ((j : Int) == 0)
        all_goals (
          clear hz he
          go_wp2_with fail
          go_ret
          exact ⟨rfl, B7.out⟩)
      · have q2 : decide (e0 < 1) = false := by simp; omega
        have q3 : decide (6 < e0) = true := by simp; omega
        cases q1 : ((j : Int) == 0)
        all_goals (
          clear hz he
          go_wp2_with fail
          go_ret
          exact ⟨rfl, B7.out⟩)
end Go.Proofs.YtgnmkhjilecdhaaGreatDoor
namespace Go.Proofs.YtgnmkhjilecdhaaGreatDoor
open Go.RowKit Go.Sort
set_option linter.unusedVariables false


set_option maxHeartbeats 4000000 in
set_option maxRecDepth 100000 in
theorem ce_last (f : Int) (xs : List Va) (a : Option Addr) (cap : Nat) (u e0 : Int) (w : World) (ht : Tb w) (hl : xs.length ≤ 10) (hv0 : ValsAt w a xs) (nm : ByteArray) (c mn mx : Int) (hc : c = 1) (k i : Int) (t : ByteArray) (HMv : CallIs 7 #[vV k i t] (.bool true)) (hk0 : (k == 0) = false) (hfi : fiV xs xs.length = -1) (hb1 : 1 ≤ xs.length) (he1 : 1 ≤ e0) (he6 : e0 ≤ 6) (K : Nat) (hK0 : K < xs.length) (hK1 : u.tmod (xs.length : Int) = (K : Int) ∨ (u.tmod (xs.length : Int) = -(K : Int) ∧ 0 < K)) (HC2 : Hid (∀ (w : World) (a : Option Addr) (cap : Nat), Tb w → ValsAt w a (xs.set K ⟨4, e0, no⟩) → Calls Tryz.prog 6 #[.int .i64 f, .slice a xs.length cap] w fun e w' => e = .returned (.tuple #[vV 4 e0 no, .int .i64 0]) ∧ Below w.heap.size w w')) (HI : InfoIs f nm c mn mx 0) (hq : decide ((xs.length : Int) < mn) = false) (hq2 : decide (mx < (xs.length : Int)) = false) (HM0 : ∀ (j : Nat) (x : Va), xs[j]? = some x → CallIs 7 #[x.v] (.bool true)) (HC : Hid (∀ (w : World) (a : Option Addr) (cap : Nat), Tb w → ValsAt w a xs → Calls Tryz.prog 6 #[.int .i64 f, .slice a xs.length cap] w fun e w' => e = .returned (.tuple #[vV k i t, .int .i64 0]) ∧ Below w.heap.size w w')) : Calls Tryz.prog 3 #[.int .i64 f, .slice a xs.length cap, .int .i64 u, .int .i64 e0] w fun e w' => e = .returned (.bool true) ∧ Below w.heap.size w w' := by
  have HM := hide HM0
  clear HM0
  have hfh := hide hfi
  have h1h := hide hb1
  have h1e := hide he1
  have h6e := hide he6
  have hKh := hide hK0
  have HK1 := hK1
  clear hfi hb1 he1 he6 hK0 hK1
  subst hc
  have HT := hide ht
  have hv := hide hv0
  clear ht hv0
  obtain ⟨len, hlen⟩ : ∃ len, len = xs.length := ⟨_, rfl⟩
  rw [← hlen] at hl HC hq hq2 ⊢
  have hlh := hide hlen
  clear hlen
  have p10 : decide ((10 : Int) < (len : Int)) = false := by simp; omega
  replace hl := hide hl
  go_enter Tryz.func3, Tryz.ntmps3
  try simp only [List.append]
  go_wp2_with fail
  refine (begun14.out _ HT.out).mono ?_
  rintro e w1 ⟨rfl, hb1⟩
  have B1 := hide (next (Below.refl w.heap.size w) hb1)
  go_wp2_with fail
  refine (HI.out _).mono ?_
  rintro e w2 ⟨rfl, hb2⟩
  have B2 := hide (step (next B1.out hb2) (.cells #[.string nm, .int .i64 1, .int .i64 mn, .int .i64 mx] 25))
  have t2 := hide (F4.new w2 nm 1 mn mx 25)
  obtain ⟨w3, hw3⟩ : ∃ w3, w2.alloc (.cells #[.string nm, .int .i64 1, .int .i64 mn, .int .i64 mx] 25) = w3 := ⟨_, rfl⟩
  rw [hw3] at B2 t2
  clear hb1 hb2 B1
  go_wp2_with fail
  refine (HC.out _ _ _ (HT.out.keep B2.out) (hv.out.keep B2.out)).mono ?_
  rintro e w4 ⟨rfl, hb4⟩
  go_upto_region 7 with fail
  have B4 := hide (step (next B2.out hb4) (vO k i t))
  have t4 := hide ((t2.out.keep hb4).keep ((Below.refl _ _).alloc (Nat.le_refl _) (vO k i t)))
  have C4 := hide (O3.new w4 (.int .i64 k) (.int .i64 i) (.string t) 30)
  obtain ⟨w5, hw5⟩ : ∃ w5, w4.alloc (vO k i t) = w5 := ⟨_, rfl⟩
  rw [hw5] at B4 t4 C4 ⊢
  clear hb4 B2 t2 hw5 hw3
  have s1 := t4.out.2.1
  have s2 := t4.out.2.2.1
  have s3 := t4.out.2.2.2
  have v0 := C4.out.1.1
  have v1 := C4.out.1.2.1
  have v2 := C4.out.1.2.2
  replace hv := hide (hv.out.keep B4.out)
  replace HT := hide (HT.out.keep B4.out)
  go_wp2_with fail
  clear s1 s2 s3 v0 v1 v2
  go_loopw [13, 14] (fun q p wr => ∃ (j : Nat) (G : Int), j ≤ len ∧ q = .int .i64 G ∧ p = .int .i64 (j : Int) ∧ Hid (G = fiV xs j) ∧ Hid (Below w5.heap.size w5 wr)) (fun _ p _ => len - (intOf p).toNat)
  case atStart => exact ⟨0, -1, Nat.zero_le _, rfl, rfl, hide rfl, hide (Below.refl _ _)⟩
  case round =>
    obtain ⟨j, G, hj, rfl, rfl, hG, HB⟩ := hrel
    have hl10 := hl.out
    by_cases hlt : j < len
    · have hj' : j < xs.length := by have := hlh.out; omega
      have p0 : (j : Int) < (len : Int) := by have := hlh.out; omega
      obtain ⟨b, off, rfl, ho⟩ := at_of hv.out hj'
      obtain ⟨x, hx⟩ : ∃ x, xs[j]? = some x := ⟨_, List.getElem?_eq_getElem hj'⟩
      have hst := hide (fiV_step xs j x hx)
      have A := (ho j x hx).keep HB.out
      have HM1 := HM.out j x hx
      obtain ⟨k', i', t'⟩ := x
      have AH := hide A
      obtain ⟨A0, A1, A2⟩ := A
      have wj : Hid (wrap64 ((j : Int) + 1) = (j : Int) + 1) := hide (IntWalk.wrap64_in _ ⟨by omega, by omega⟩)
      clear ho hx hl10
      go_wp2_with fail
      refine (HM1.out _).mono ?_
      rintro e w6 ⟨rfl, hb6⟩
      have HB' := hide (next HB.out hb6)
      have A0' := (AH.out.keep hb6).1
      clear hb6 A0 A1 A2 AH HM1
      cases hneg : decide (G < 0) with
      | false =>
        have hs2 : Hid (fiV xs (j + 1) = G) := hide (by rw [hst.out, if_neg (by rintro ⟨h, _⟩; rw [← hG.out] at h; simp at hneg; omega), hG.out])
        go_wp2_with fail
        refine ⟨⟨j + 1, G, hlt, rfl, by rw [wj.out]; rfl, hide hs2.out.symm, HB'⟩, ?_⟩
        rw [wj.out]
        exact meas_j p0
      | true =>
        cases hk4 : (k' == 4) with
        | false =>
          have hs2 : Hid (fiV xs (j + 1) = G) := hide (by rw [hst.out, if_neg (by rintro ⟨_, h⟩; have h' : k' = 4 := h; rw [h'] at hk4; cases hk4), hG.out])
          go_wp2_with fail
          refine ⟨⟨j + 1, G, hlt, rfl, by rw [wj.out]; rfl, hide hs2.out.symm, HB'⟩, ?_⟩
          rw [wj.out]
          exact meas_j p0
        | true =>
          have hs2 : Hid (fiV xs (j + 1) = (j : Int)) := hide (by rw [hst.out, if_pos ⟨by rw [← hG.out]; simpa using hneg, by simpa using hk4⟩])
          go_wp2_with fail
          refine ⟨⟨j + 1, (j : Int), hlt, rfl, by rw [wj.out]; rfl, hide hs2.out.symm, HB'⟩, ?_⟩
          rw [wj.out]
          exact meas_j p0
    · obtain rfl : j = len := by omega
      have hGx := hide (show G = fiV xs xs.length by rw [← hlh.out]; exact hG.out)
      have C6 := hide (C4.out.keep HB.out)
      have t6 := hide (t4.out.keep HB.out)
      have B6 := hide (next B4.out HB.out)
      replace hv := hide (hv.out.keep HB.out)
      replace HT := hide (HT.out.keep HB.out)
      have v0 := C6.out.1.1
      have v1 := C6.out.1.2.1
      have v2 := C6.out.1.2.2
      clear hl10
      go_wp2_with fail
      clear v0 v1 v2
      refine (HMv.out _).mono ?_
      rintro e w7 ⟨rfl, hb7⟩
      have B7 := hide (next B6.out hb7)
      have K7 := hide hb7
      have C7 := hide (C6.out.keep K7.out)
      have t7 := hide (t6.out.keep K7.out)
      replace hv := hide (hv.out.keep K7.out)
      replace HT := hide (HT.out.keep K7.out)
      clear hb7 K7 C6 t6 B6
      have v0 := C7.out.1.1
      have s1 := t7.out.2.1
      obtain rfl : G = -1 := hGx.out.trans hfh.out
      have hz := hlh.out
      have q1 : ((j : Int) == 0) = false := by have := h1h.out; simp; omega
      have q2 : decide (e0 < 1) = false := by have := h1e.out; simp; omega
      have q3 : decide (6 < e0) = false := by have := h6e.out; simp; omega
      have hKh' : Hid (K < j) := hide (by have := hKh.out; omega)
      have hj1 : Hid (1 ≤ j ∧ j ≤ 10) := hide (by have := h1h.out; have := hl.out; omega)
      obtain ⟨b, off, rfl, ho⟩ := at_of hv.out (show 0 < xs.length by have := h1h.out; omega)
      rw [← hz] at HK1 HC2
      have hoh := hide ho
      have hxl := hide hz.symm
      clear ho hz
      have hj0 : ¬ j = 0 := by have := hj1.out; omega
      have hK0n : (0 : Int) ≤ (K : Int) := by omega
      have hwK : wrap64 (K : Int) = (K : Int) := IntWalk.wrap64_in _ ⟨by omega, by have := hKh.out; have := hl.out; have := hKh'.out; have := hj1.out; omega⟩
      rcases HK1 with hr | ⟨hr, hKp⟩
      all_goals (
        go_wp2_with (first
          | (at_builtin; refine wpList_copyV (B := w7.heap.size) rfl _ rfl rfl xs hxl.out hoh.out (by have := hxl.out; have := hj1.out; omega) (Nat.le_refl _) ?_; intro vx w8 hrx hgx; have hrow := hide (RowW.row hrx (by have := hxl.out; have := hj1.out; omega)); have b8 := hide (below_grown hgx); clear hrx hgx))
        obtain ⟨g, cap2, rfl, hgB, hRX⟩ := hrow.out
        clear hrow
        rw [hxl.out] at *
        refine ((lbad_is e0).out _).mono ?_
        rintro e w9 ⟨rfl, hb9⟩
        have R9 := hide (hRX.keep hb9)
        have B9 := hide ((b8.out).trans (hb9.mono b8.out.size))
        have hgh := hide hgB
        clear hb9 hRX b8 hgB
        obtain ⟨u0, c0⟩ := R9.out.at' (o := K * 3) (by have := hKh.out; omega)
        obtain ⟨u1, c1⟩ := R9.out.at' (o := K * 3 + 1) (by have := hKh.out; omega)
        obtain ⟨u2, c2⟩ := R9.out.at' (o := K * 3 + 2) (by have := hKh.out; omega)
        have f0 := R9.out.fr (K * 3)
        have f1 := R9.out.fr (K * 3 + 1)
        have f2 := R9.out.fr (K * 3 + 2)
        have R10 := hide (R9.out.put K ⟨4, e0, no⟩)
        have B10 := hide (((B9.out.setCell (p := ⟨g, K * 3, none⟩) hgh.out (.int .i64 4)).setCell (p := ⟨g, K * 3 + 1, none⟩) hgh.out (.int .i64 e0)).setCell (p := ⟨g, K * 3 + 2, none⟩) hgh.out (.string no))
        obtain ⟨wq, hwq⟩ : ∃ wq, ((w9.setCell ⟨g, K * 3, none⟩ (.int .i64 4)).setCell ⟨g, K * 3 + 1, none⟩ (.int .i64 e0)).setCell ⟨g, K * 3 + 2, none⟩ (.string no) = wq := ⟨_, rfl⟩
        simp only at R10
        rw [hwq] at R10 B10
        have HTq := hide (HT.out.keep B10.out)
        have hvq := hide (RowX.vals R10.out)
        have hKj : (K : Int) < (j : Int) := by have := hKh'.out; omega
        go_wp2_with fail
        clear c0 c1 c2 f0 f1 f2 hwq
        refine (HC2.out _ _ _ HTq.out hvq.out).mono ?_
        rintro e wr' ⟨rfl, hbr⟩
        have BE := hide (next (next B7.out B10.out) hbr)
        clear hbr
        go_upto_region 31 with fail
        have CE := hide (O3.new wr' (.int .i64 4) (.int .i64 e0) (.string no) 30)
        have BF := hide (step BE.out (vO 4 e0 no))
        obtain ⟨wz, hwz⟩ : ∃ wz, wr'.alloc (vO 4 e0 no) = wz := ⟨_, rfl⟩
        rw [hwz] at CE BF ⊢
        clear hwz
        have veq := va_eq1 4 e0 no
        have y0 := cell_regrown CE.out.1.1
        have y1 := cell_regrown CE.out.1.2.1
        have y2 := cell_regrown CE.out.1.2.2
        have kq := fun d' os => Calls.regrown_of ((lbad_is e0).out (grow (redrawn wz d') os))
        refine wp_region_quiet_below (by kernel_rfl) (by kernel_rfl) ?_
        repeat (go_big_quiet_step (first | (with_reducible exact kq _ _)))
        refine wpQuiet_nil ?_
        intro wy hwy
        have hby : Below wz.heap.size wz wy := by obtain ⟨⟨dq, osq⟩, hq⟩ := hwy; rw [hq]; exact below_regrown _ dq osq
        clear hwy y0 y1 y2 kq
        go_wp2_with fail
        go_ret
        exact ⟨rfl, next BF.out hby⟩)
end Go.Proofs.YtgnmkhjilecdhaaGreatDoor
