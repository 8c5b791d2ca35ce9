/- What the reference's ReadArea answers, way by way. Proved of the Go text. -/
import Derived.Test.YtjhfjpofmkofhaaDoorR2Read
namespace Go.Proofs.YtjhfjpofmkofhaaDoor
open Go.RowKit Go.Sort
set_option linter.unusedVariables false

abbrev RefRIs (s : ByteArray) (r c : Int) (p q : Bool) (n e : Int) : Prop := Hid (∀ w, Calls Tryd.prog 23 #[.string s] w fun e' w' => e' = .returned (.tuple #[refV r c p q, .int .i64 n, .int .i64 e]) ∧ Below w.heap.size w w')

abbrev put4 (w : World) (b : Nat) (u0 u1 u2 u3 : Value) : World := (((w.setCell ⟨b, 0, none⟩ u0).setCell ⟨b, 1, none⟩ u1).setCell ⟨b, 2, none⟩ u2).setCell ⟨b, 3, none⟩ u3
theorem put4_frozen (w : World) (b : Nat) (u0 u1 u2 u3 : Value) (a : Addr) : (put4 w b u0 u1 u2 u3).frozen? a = w.frozen? a := by
  unfold put4
  rw [World.frozen?_setCell, World.frozen?_setCell, World.frozen?_setCell, World.frozen?_setCell]
theorem put4_other (w : World) (b : Nat) (u0 u1 u2 u3 : Value) (a o : Nat) (h : a ≠ b) : (put4 w b u0 u1 u2 u3).cell? ⟨a, o, none⟩ = w.cell? ⟨a, o, none⟩ := by
  unfold put4
  rw [World.cell?_setCell_other _ _ _ _ (by simp), World.cell?_setCell_other _ _ _ _ (by simp), World.cell?_setCell_other _ _ _ _ (by simp), World.cell?_setCell_other _ _ _ _ (by simp)]
theorem O4.other {w : World} {a b : Nat} {v0 v1 v2 v3 u0 u1 u2 u3 : Value} (h : O4 w a v0 v1 v2 v3) (hn : a ≠ b) : O4 (put4 w b u0 u1 u2 u3) a v0 v1 v2 v3 :=
  ⟨⟨(put4_other w b u0 u1 u2 u3 a 0 hn).trans h.1.1, (put4_other w b u0 u1 u2 u3 a 1 hn).trans h.1.2.1, (put4_other w b u0 u1 u2 u3 a 2 hn).trans h.1.2.2.1, (put4_other w b u0 u1 u2 u3 a 3 hn).trans h.1.2.2.2⟩, fun j => (put4_frozen w b u0 u1 u2 u3 _).trans (h.2 j)⟩
theorem put_c {w : World} {b i j : Nat} {v u : Value} (h : w.cell? ⟨b, j, none⟩ = some v) (hn : j ≠ i) : (w.setCell ⟨b, i, none⟩ u).cell? ⟨b, j, none⟩ = some v := (World.cell?_setCell_other _ _ _ _ (by simp)).trans h
theorem O4.put {w : World} {b : Nat} {v0 v1 v2 v3 : Value} (h : O4 w b v0 v1 v2 v3) (u0 u1 u2 u3 : Value) : O4 (put4 w b u0 u1 u2 u3) b u0 u1 u2 u3 := by
  obtain ⟨⟨h0, h1, h2, h3⟩, hf⟩ := h
  have s0 := World.cell?_setCell_same w _ u0 h0
  have s1 := World.cell?_setCell_same (w.setCell ⟨b, 0, none⟩ u0) _ u1 (put_c h1 (by decide))
  have s2 := World.cell?_setCell_same ((w.setCell ⟨b, 0, none⟩ u0).setCell ⟨b, 1, none⟩ u1) _ u2 (put_c (put_c h2 (by decide)) (by decide))
  have s3 := World.cell?_setCell_same (((w.setCell ⟨b, 0, none⟩ u0).setCell ⟨b, 1, none⟩ u1).setCell ⟨b, 2, none⟩ u2) _ u3 (put_c (put_c (put_c h3 (by decide)) (by decide)) (by decide))
  exact ⟨⟨put_c (put_c (put_c s0 (by decide)) (by decide)) (by decide), put_c (put_c s1 (by decide)) (by decide), put_c s2 (by decide), s3⟩, fun j => (put4_frozen w b u0 u1 u2 u3 _).trans (hf j)⟩
theorem below_put4 {a w : World} {b : Nat} (h : Below a.heap.size a w) (hb : a.heap.size ≤ b) (u0 u1 u2 u3 : Value) : Below a.heap.size a (put4 w b u0 u1 u2 u3) :=
  (((h.setCell hb u0).setCell hb u1).setCell hb u2).setCell hb u3

set_option maxHeartbeats 1000000 in
set_option maxRecDepth 100000 in
theorem areaR_syn (s : ByteArray) (w : World) (hs : s.size ≤ maxLen) (HR : RefRIs s 0 0 false false 0 20) :
    Calls Tryd.prog 24 #[.string s] w fun e' w' => e' = .returned (.tuple #[areaV 0 0 0 0, .int .i64 20]) ∧ Below w.heap.size w w' := by
  unfold maxLen at hs
  go_enter Tryd.func24, Tryd.ntmps24
  try simp only [List.append]
  go_wp2_with fail
  refine (HR.out _).mono ?_
  rintro e' w1 ⟨rfl, hb1⟩
  have B1 := hide (next (step (Below.refl w.heap.size w) _) hb1)
  have z1 := hb1.size
  try simp at z1
  have ro := (O4.new w (.int .i64 0) (.int .i64 0) (.int .i64 0) (.int .i64 0) 46).keep hb1
  have g0 := fun o o' => ((ro.alloc o).alloc o').1.1
  have g1 := fun o o' => ((ro.alloc o).alloc o').1.2.1
  have g2 := fun o o' => ((ro.alloc o).alloc o').1.2.2.1
  have g3 := fun o o' => ((ro.alloc o).alloc o').1.2.2.2
  have gf := fun o o' => ((ro.alloc o).alloc o').2
  clear ro hb1
  go_wp2_with fail
  refine bodyPost_ret (by simp [results, Tryd.results24, go_sem, g0, g1, g2, g3]; try rfl) rfl ?_
  refine ⟨rfl, ?_⟩
  go_grown
  all_goals first | exact B1.out | omega

set_option maxHeartbeats 1000000 in
set_option maxRecDepth 100000 in
theorem areaR_one_off (s : ByteArray) (w : World) (hs : s.size ≤ maxLen) (r c e : Int) (p q : Bool) (h0 : 0 < s.size) (HR : RefRIs s r c p q s.size e) (he : (e != 0) = true) :
    Calls Tryd.prog 24 #[.string s] w fun e' w' => e' = .returned (.tuple #[areaV 0 0 0 0, .int .i64 10]) ∧ Below w.heap.size w w' := by
  unfold maxLen at hs
  have t0 : ((s.size : Int) == 0) = false := by rw [beq_eq_false_iff_ne]; omega
  have t1 : (0 : Int) < s.size := by omega
  go_enter Tryd.func24, Tryd.ntmps24
  try simp only [List.append]
  go_wp2_with fail
  refine (HR.out _).mono ?_
  rintro e' w1 ⟨rfl, hb1⟩
  have B1 := hide (next (step (Below.refl w.heap.size w) _) hb1)
  have z1 := hb1.size
  try simp at z1
  have ro := (O4.new w (.int .i64 0) (.int .i64 0) (.int .i64 0) (.int .i64 0) 46).keep hb1
  have g0 := fun o o' => ((ro.alloc o).alloc o').1.1
  have g1 := fun o o' => ((ro.alloc o).alloc o').1.2.1
  have g2 := fun o o' => ((ro.alloc o).alloc o').1.2.2.1
  have g3 := fun o o' => ((ro.alloc o).alloc o').1.2.2.2
  have gf := fun o o' => ((ro.alloc o).alloc o').2
  clear ro hb1
  go_wp2_with fail
  refine bodyPost_ret (by simp [results, Tryd.results24, go_sem, g0, g1, g2, g3]; try rfl) rfl ?_
  refine ⟨rfl, ?_⟩
  go_grown
  all_goals first | exact B1.out | omega

set_option maxHeartbeats 1000000 in
set_option maxRecDepth 100000 in
theorem areaR_one (s : ByteArray) (w : World) (hs : s.size ≤ maxLen) (r c : Int) (p q : Bool) (h0 : 0 < s.size) (HR : RefRIs s r c p q s.size 0) (hr : 0 ≤ r) (hr' : r < 65536) (hc : 0 ≤ c) (hc' : c < 702) :
    Calls Tryd.prog 24 #[.string s] w fun e' w' => e' = .returned (.tuple #[areaV r c r c, .int .i64 0]) ∧ Below w.heap.size w w' := by
  unfold maxLen at hs
  have t0 : ((s.size : Int) == 0) = false := by rw [beq_eq_false_iff_ne]; omega
  have t1 : (0 : Int) < s.size := by omega
  go_enter Tryd.func24, Tryd.ntmps24
  try simp only [List.append]
  go_wp2_with fail
  refine (HR.out _).mono ?_
  rintro e' w1 ⟨rfl, hb1⟩
  have B1 := hide (next (step (Below.refl w.heap.size w) _) hb1)
  have z1 := hb1.size
  try simp at z1
  have ro := (O4.new w (.int .i64 0) (.int .i64 0) (.int .i64 0) (.int .i64 0) 46).keep hb1
  have k0 := fun o o' o'' => (((ro.alloc o).alloc o').alloc o'').1.1
  have k1 := fun o o' o'' => (((ro.alloc o).alloc o').alloc o'').1.2.1
  have k2 := fun o o' o'' => (((ro.alloc o).alloc o').alloc o'').1.2.2.1
  have k3 := fun o o' o'' => (((ro.alloc o).alloc o').alloc o'').1.2.2.2
  have kf := fun o o' o'' => (((ro.alloc o).alloc o').alloc o'').2
  clear ro hb1
  go_wp2_with fail
  refine bodyPost_ret (by simp [results, Tryd.results24, go_sem, k0, k1, k2, k3]; try rfl) rfl ?_
  refine ⟨rfl, ?_⟩
  go_grown
  all_goals first | exact B1.out | omega

set_option maxHeartbeats 1000000 in
set_option maxRecDepth 100000 in
theorem areaR_nocolon (s : ByteArray) (w : World) (hs : s.size ≤ maxLen) (n : Nat) (r c e : Int) (p q : Bool) (h0 : 0 < n) (h1 : n < s.size) (HR : RefRIs s r c p q n e) (hk : ((s[n].toNat : Int) == 58) = false) :
    Calls Tryd.prog 24 #[.string s] w fun e' w' => e' = .returned (.tuple #[areaV 0 0 0 0, .int .i64 20]) ∧ Below w.heap.size w w' := by
  unfold maxLen at hs
  have t0 : ((n : Int) == 0) = false := by rw [beq_eq_false_iff_ne]; omega
  have t1 : (0 : Int) < n := by omega
  have t2 : (n : Int) < s.size := by omega
  have t3 : ((n : Int) != s.size) = true := by rw [bne_iff_ne]; omega
  go_enter Tryd.func24, Tryd.ntmps24
  try simp only [List.append]
  go_wp2_with fail
  refine (HR.out _).mono ?_
  rintro e' w1 ⟨rfl, hb1⟩
  have B1 := hide (next (step (Below.refl w.heap.size w) _) hb1)
  have z1 := hb1.size
  try simp at z1
  have ro := (O4.new w (.int .i64 0) (.int .i64 0) (.int .i64 0) (.int .i64 0) 46).keep hb1
  have g0 := fun o o' => ((ro.alloc o).alloc o').1.1
  have g1 := fun o o' => ((ro.alloc o).alloc o').1.2.1
  have g2 := fun o o' => ((ro.alloc o).alloc o').1.2.2.1
  have g3 := fun o o' => ((ro.alloc o).alloc o').1.2.2.2
  have gf := fun o o' => ((ro.alloc o).alloc o').2
  clear ro hb1
  go_wp2_with fail
  refine bodyPost_ret (by simp [results, Tryd.results24, go_sem, g0, g1, g2, g3]; try rfl) rfl ?_
  refine ⟨rfl, ?_⟩
  go_grown
  all_goals first | exact B1.out | omega

set_option maxHeartbeats 1000000 in
set_option maxRecDepth 100000 in
theorem areaR_none (s : ByteArray) (w : World) (hs : s.size ≤ maxLen) (n : Nat) (r c e : Int) (p q : Bool) (h0 : 0 < n) (h1 : n < s.size) (HR : RefRIs s r c p q n e) (hk : ((s[n].toNat : Int) == 58) = true) (u : ByteArray) (hu : s.extract (n + 1) s.size = u) (HU : RefRIs u 0 0 false false 0 20) :
    Calls Tryd.prog 24 #[.string s] w fun e' w' => e' = .returned (.tuple #[areaV 0 0 0 0, .int .i64 20]) ∧ Below w.heap.size w w' := by
  unfold maxLen at hs
  have t0 : ((n : Int) == 0) = false := by rw [beq_eq_false_iff_ne]; omega
  have t1 : (0 : Int) < n := by omega
  have t2 : (n : Int) < s.size := by omega
  have t4 : (n : Int) + 1 ≤ s.size := by omega
  go_enter Tryd.func24, Tryd.ntmps24
  try simp only [List.append]
  go_wp2_with fail
  refine (HR.out _).mono ?_
  rintro e' w1 ⟨rfl, hb1⟩
  have B1 := hide (next (step (Below.refl w.heap.size w) _) hb1)
  have z1 := hb1.size
  try simp at z1
  have ro := (O4.new w (.int .i64 0) (.int .i64 0) (.int .i64 0) (.int .i64 0) 46).keep hb1
  have oa := C4.new w1 (.int .i64 r) (.int .i64 c) (.bool p) (.bool q) 28
  have ob := O4.new (w1.alloc (refO r c p q)) (.int .i64 r) (.int .i64 c) (.bool p) (.bool q) 28
  simp only [World.size_alloc] at ob
  go_wp2_with fail
  refine (HU.out _).mono ?_
  rintro e' w2 ⟨rfl, hb2⟩
  have B2 := hide (next (step (step B1.out _) _) hb2)
  have z2 := hb2.size
  try simp at z2
  replace ro := ((ro.alloc _).alloc _).keep hb2
  replace oa := (oa.alloc _).keep hb2
  replace ob := ob.keep hb2
  obtain ⟨a0, a1, a2, a3⟩ := oa
  obtain ⟨⟨b0, b1, b2, b3⟩, bf⟩ := ob
  obtain ⟨⟨g0, g1, g2, g3⟩, gf⟩ := ro
  clear hb1 hb2
  go_wp2_with fail
  refine bodyPost_ret (by simp [results, Tryd.results24, go_sem, g0, g1, g2, g3]; try rfl) rfl ?_
  refine ⟨rfl, ?_⟩
  go_grown
  all_goals first | exact B2.out | omega

set_option maxHeartbeats 1000000 in
set_option maxRecDepth 100000 in
theorem areaR_short (s : ByteArray) (w : World) (hs : s.size ≤ maxLen) (n : Nat) (r c e : Int) (p q : Bool) (h0 : 0 < n) (h1 : n < s.size) (HR : RefRIs s r c p q n e) (hk : ((s[n].toNat : Int) == 58) = true) (u : ByteArray) (hu : s.extract (n + 1) s.size = u) (x y f : Int) (p' q' : Bool) (k : Nat) (hk0 : 0 < k) (HU : RefRIs u x y p' q' k f) (hn : n + 1 + k ≠ s.size) (hn' : n + 1 + k ≤ s.size) :
    Calls Tryd.prog 24 #[.string s] w fun e' w' => e' = .returned (.tuple #[areaV 0 0 0 0, .int .i64 20]) ∧ Below w.heap.size w w' := by
  unfold maxLen at hs
  have t0 : ((n : Int) == 0) = false := by rw [beq_eq_false_iff_ne]; omega
  have t1 : (0 : Int) < n := by omega
  have t2 : (n : Int) < s.size := by omega
  have t4 : (n : Int) + 1 ≤ s.size := by omega
  have t5 : ((k : Int) == 0) = false := by rw [beq_eq_false_iff_ne]; omega
  have t6 : (((n : Int) + 1 + k) == 0) = false := by rw [beq_eq_false_iff_ne]; omega
  have t7 : (((n : Int) + 1 + k) != s.size) = true := by rw [bne_iff_ne]; omega
  go_enter Tryd.func24, Tryd.ntmps24
  try simp only [List.append]
  go_wp2_with fail
  refine (HR.out _).mono ?_
  rintro e' w1 ⟨rfl, hb1⟩
  have B1 := hide (next (step (Below.refl w.heap.size w) _) hb1)
  have z1 := hb1.size
  try simp at z1
  have ro := (O4.new w (.int .i64 0) (.int .i64 0) (.int .i64 0) (.int .i64 0) 46).keep hb1
  have oa := C4.new w1 (.int .i64 r) (.int .i64 c) (.bool p) (.bool q) 28
  have ob := O4.new (w1.alloc (refO r c p q)) (.int .i64 r) (.int .i64 c) (.bool p) (.bool q) 28
  simp only [World.size_alloc] at ob
  go_wp2_with fail
  refine (HU.out _).mono ?_
  rintro e' w2 ⟨rfl, hb2⟩
  have B2 := hide (next (step (step B1.out _) _) hb2)
  have z2 := hb2.size
  try simp at z2
  replace ro := ((ro.alloc _).alloc _).keep hb2
  replace oa := (oa.alloc _).keep hb2
  replace ob := ob.keep hb2
  obtain ⟨a0, a1, a2, a3⟩ := oa
  obtain ⟨⟨b0, b1, b2, b3⟩, bf⟩ := ob
  obtain ⟨⟨g0, g1, g2, g3⟩, gf⟩ := ro
  clear hb1 hb2
  go_wp2_with fail
  refine bodyPost_ret (by simp [results, Tryd.results24, go_sem, g0, g1, g2, g3]; try rfl) rfl ?_
  refine ⟨rfl, ?_⟩
  go_grown
  all_goals first | exact B2.out | omega

set_option maxHeartbeats 1000000 in
set_option maxRecDepth 100000 in
theorem areaR_off1 (s : ByteArray) (w : World) (hs : s.size ≤ maxLen) (n : Nat) (r c e : Int) (p q : Bool) (h0 : 0 < n) (h1 : n < s.size) (HR : RefRIs s r c p q n e) (hk : ((s[n].toNat : Int) == 58) = true) (u : ByteArray) (hu : s.extract (n + 1) s.size = u) (x y f : Int) (p' q' : Bool) (k : Nat) (hk0 : 0 < k) (HU : RefRIs u x y p' q' k f) (hn : n + 1 + k = s.size) (he : (e != 0) = true) :
    Calls Tryd.prog 24 #[.string s] w fun e' w' => e' = .returned (.tuple #[areaV 0 0 0 0, .int .i64 10]) ∧ Below w.heap.size w w' := by
  unfold maxLen at hs
  have t0 : ((n : Int) == 0) = false := by rw [beq_eq_false_iff_ne]; omega
  have t1 : (0 : Int) < n := by omega
  have t2 : (n : Int) < s.size := by omega
  have t4 : (n : Int) + 1 ≤ s.size := by omega
  have t5 : ((k : Int) == 0) = false := by rw [beq_eq_false_iff_ne]; omega
  have t6 : (((n : Int) + 1 + k) == 0) = false := by rw [beq_eq_false_iff_ne]; omega
  have t7 : (((n : Int) + 1 + k) != s.size) = false := by rw [bne_eq_false_iff_eq]; omega
  have t8 : (n : Int) + 1 + k ≤ s.size := by omega
  clear hn
  go_enter Tryd.func24, Tryd.ntmps24
  try simp only [List.append]
  go_wp2_with fail
  refine (HR.out _).mono ?_
  rintro e' w1 ⟨rfl, hb1⟩
  have B1 := hide (next (step (Below.refl w.heap.size w) _) hb1)
  have z1 := hb1.size
  try simp at z1
  have ro := (O4.new w (.int .i64 0) (.int .i64 0) (.int .i64 0) (.int .i64 0) 46).keep hb1
  have oa := C4.new w1 (.int .i64 r) (.int .i64 c) (.bool p) (.bool q) 28
  have ob := O4.new (w1.alloc (refO r c p q)) (.int .i64 r) (.int .i64 c) (.bool p) (.bool q) 28
  simp only [World.size_alloc] at ob
  go_wp2_with fail
  refine (HU.out _).mono ?_
  rintro e' w2 ⟨rfl, hb2⟩
  have B2 := hide (next (step (step B1.out _) _) hb2)
  have z2 := hb2.size
  try simp at z2
  replace ro := ((ro.alloc _).alloc _).keep hb2
  replace oa := (oa.alloc _).keep hb2
  replace ob := ob.keep hb2
  obtain ⟨a0, a1, a2, a3⟩ := oa
  obtain ⟨⟨b0, b1, b2, b3⟩, bf⟩ := ob
  obtain ⟨⟨g0, g1, g2, g3⟩, gf⟩ := ro
  clear hb1 hb2
  go_wp2_with fail
  refine bodyPost_ret (by simp [results, Tryd.results24, go_sem, g0, g1, g2, g3]; try rfl) rfl ?_
  refine ⟨rfl, ?_⟩
  go_grown
  all_goals first | exact B2.out | omega

set_option maxHeartbeats 1000000 in
set_option maxRecDepth 100000 in
theorem areaR_off2 (s : ByteArray) (w : World) (hs : s.size ≤ maxLen) (n : Nat) (r c e : Int) (p q : Bool) (h0 : 0 < n) (h1 : n < s.size) (HR : RefRIs s r c p q n e) (hk : ((s[n].toNat : Int) == 58) = true) (u : ByteArray) (hu : s.extract (n + 1) s.size = u) (x y f : Int) (p' q' : Bool) (k : Nat) (hk0 : 0 < k) (HU : RefRIs u x y p' q' k f) (hn : n + 1 + k = s.size) (he : (e != 0) = false) (hf : (f != 0) = true) :
    Calls Tryd.prog 24 #[.string s] w fun e' w' => e' = .returned (.tuple #[areaV 0 0 0 0, .int .i64 10]) ∧ Below w.heap.size w w' := by
  unfold maxLen at hs
  have t0 : ((n : Int) == 0) = false := by rw [beq_eq_false_iff_ne]; omega
  have t1 : (0 : Int) < n := by omega
  have t2 : (n : Int) < s.size := by omega
  have t4 : (n : Int) + 1 ≤ s.size := by omega
  have t5 : ((k : Int) == 0) = false := by rw [beq_eq_false_iff_ne]; omega
  have t6 : (((n : Int) + 1 + k) == 0) = false := by rw [beq_eq_false_iff_ne]; omega
  have t7 : (((n : Int) + 1 + k) != s.size) = false := by rw [bne_eq_false_iff_eq]; omega
  have t8 : (n : Int) + 1 + k ≤ s.size := by omega
  clear hn
  go_enter Tryd.func24, Tryd.ntmps24
  try simp only [List.append]
  go_wp2_with fail
  refine (HR.out _).mono ?_
  rintro e' w1 ⟨rfl, hb1⟩
  have B1 := hide (next (step (Below.refl w.heap.size w) _) hb1)
  have z1 := hb1.size
  try simp at z1
  have ro := (O4.new w (.int .i64 0) (.int .i64 0) (.int .i64 0) (.int .i64 0) 46).keep hb1
  have oa := C4.new w1 (.int .i64 r) (.int .i64 c) (.bool p) (.bool q) 28
  have ob := O4.new (w1.alloc (refO r c p q)) (.int .i64 r) (.int .i64 c) (.bool p) (.bool q) 28
  simp only [World.size_alloc] at ob
  go_wp2_with fail
  refine (HU.out _).mono ?_
  rintro e' w2 ⟨rfl, hb2⟩
  have B2 := hide (next (step (step B1.out _) _) hb2)
  have z2 := hb2.size
  try simp at z2
  replace ro := ((ro.alloc _).alloc _).keep hb2
  replace oa := (oa.alloc _).keep hb2
  replace ob := ob.keep hb2
  obtain ⟨a0, a1, a2, a3⟩ := oa
  obtain ⟨⟨b0, b1, b2, b3⟩, bf⟩ := ob
  obtain ⟨⟨g0, g1, g2, g3⟩, gf⟩ := ro
  clear hb1 hb2
  go_wp2_with fail
  refine bodyPost_ret (by simp [results, Tryd.results24, go_sem, g0, g1, g2, g3]; try rfl) rfl ?_
  refine ⟨rfl, ?_⟩
  go_grown
  all_goals first | exact B2.out | omega

set_option maxHeartbeats 1000000 in
set_option maxRecDepth 100000 in
theorem areaR_two (s : ByteArray) (w : World) (hs : s.size ≤ maxLen) (n : Nat) (r c e : Int) (p q : Bool) (h0 : 0 < n) (h1 : n < s.size) (HR : RefRIs s r c p q n e) (hk : ((s[n].toNat : Int) == 58) = true) (u : ByteArray) (hu : s.extract (n + 1) s.size = u) (x y f : Int) (p' q' : Bool) (k : Nat) (hk0 : 0 < k) (HU : RefRIs u x y p' q' k f) (hn : n + 1 + k = s.size) (he : (e != 0) = false) (hf : (f != 0) = false) (hr : 0 ≤ r) (hr' : r < 65536) (hc : 0 ≤ c) (hc' : c < 702) (hx : 0 ≤ x) (hx' : x < 65536) (hy : 0 ≤ y) (hy' : y < 702) (h : (max r x - min r x + 1) * (max c y - min c y + 1) ≤ 4096) :
    Calls Tryd.prog 24 #[.string s] w fun e' w' => e' = .returned (.tuple #[areaV (min r x) (min c y) (max r x) (max c y), .int .i64 0]) ∧ Below w.heap.size w w' := by
  unfold maxLen at hs
  have t0 : ((n : Int) == 0) = false := by rw [beq_eq_false_iff_ne]; omega
  have t1 : (0 : Int) < n := by omega
  have t2 : (n : Int) < s.size := by omega
  have t4 : (n : Int) + 1 ≤ s.size := by omega
  have t5 : ((k : Int) == 0) = false := by rw [beq_eq_false_iff_ne]; omega
  have t6 : (((n : Int) + 1 + k) == 0) = false := by rw [beq_eq_false_iff_ne]; omega
  have t7 : (((n : Int) + 1 + k) != s.size) = false := by rw [bne_eq_false_iff_eq]; omega
  have t8 : (n : Int) + 1 + k ≤ s.size := by omega
  clear hn
  obtain ⟨n1, n2⟩ := prod_bound (max r x - min r x + 1) (max c y - min c y + 1) (by omega) (by omega) (by omega) (by omega)
  have m1 : 0 ≤ max r x - min r x ∧ max r x - min r x < 65536 := by omega
  have m2 : 0 ≤ max c y - min c y ∧ max c y - min c y < 702 := by omega
  obtain ⟨m1, m1'⟩ := m1
  obtain ⟨m2, m2'⟩ := m2
  go_enter Tryd.func24, Tryd.ntmps24
  try simp only [List.append]
  go_wp2_with fail
  refine (HR.out _).mono ?_
  rintro e' w1 ⟨rfl, hb1⟩
  have B1 := hide (next (step (Below.refl w.heap.size w) _) hb1)
  have z1 := hb1.size
  try simp at z1
  have ro := (O4.new w (.int .i64 0) (.int .i64 0) (.int .i64 0) (.int .i64 0) 46).keep hb1
  have oa := O4.new w1 (.int .i64 r) (.int .i64 c) (.bool p) (.bool q) 28
  have ob := O4.new (w1.alloc (refO r c p q)) (.int .i64 r) (.int .i64 c) (.bool p) (.bool q) 28
  simp only [World.size_alloc] at ob
  go_wp2_with fail
  refine (HU.out _).mono ?_
  rintro e' w2 ⟨rfl, hb2⟩
  have B2 := next (step (step B1.out _) _) hb2
  replace ro := (((ro.alloc _).alloc _).keep hb2).other (b := w1.heap.size + 1) (u0 := .int .i64 x) (u1 := .int .i64 y) (u2 := .bool p') (u3 := .bool q') (by omega)
  replace oa := ((oa.alloc _).keep hb2).other (b := w1.heap.size + 1) (u0 := .int .i64 x) (u1 := .int .i64 y) (u2 := .bool p') (u3 := .bool q') (by omega)
  have ob2 := ob.keep hb2
  obtain ⟨⟨b0, b1, b2, b3⟩, bf⟩ := ob2
  replace ob := (ob.keep hb2).put (.int .i64 x) (.int .i64 y) (.bool p') (.bool q')
  have B3 := hide (below_put4 (b := w1.heap.size + 1) B2 (by omega) (.int .i64 x) (.int .i64 y) (.bool p') (.bool q'))
  obtain ⟨w3, hw3⟩ : ∃ w3, put4 w2 (w1.heap.size + 1) (.int .i64 x) (.int .i64 y) (.bool p') (.bool q') = w3 := ⟨_, rfl⟩
  rw [hw3] at ro oa ob B3
  have z3 := B3.out.size
  unfold put4 at hw3
  obtain ⟨⟨a0, a1, a2, a3⟩, af⟩ := oa
  obtain ⟨⟨d0, d1, d2, d3⟩, df⟩ := ob
  have g0 := fun o => (ro.alloc o).1.1
  have g1 := fun o => (ro.alloc o).1.2.1
  have g2 := fun o => (ro.alloc o).1.2.2.1
  have g3 := fun o => (ro.alloc o).1.2.2.2
  have gf := fun o => (ro.alloc o).2
  clear hb1 hb2 ro B2
  go_wp2_with fail
  refine bodyPost_ret (by simp [results, Tryd.results24, go_sem, g0, g1, g2, g3]; try rfl) rfl ?_
  refine ⟨rfl, ?_⟩
  go_grown
  all_goals first | exact B3.out | omega

set_option maxHeartbeats 1000000 in
set_option maxRecDepth 100000 in
theorem areaR_big (s : ByteArray) (w : World) (hs : s.size ≤ maxLen) (n : Nat) (r c e : Int) (p q : Bool) (h0 : 0 < n) (h1 : n < s.size) (HR : RefRIs s r c p q n e) (hk : ((s[n].toNat : Int) == 58) = true) (u : ByteArray) (hu : s.extract (n + 1) s.size = u) (x y f : Int) (p' q' : Bool) (k : Nat) (hk0 : 0 < k) (HU : RefRIs u x y p' q' k f) (hn : n + 1 + k = s.size) (he : (e != 0) = false) (hf : (f != 0) = false) (hr : 0 ≤ r) (hr' : r < 65536) (hc : 0 ≤ c) (hc' : c < 702) (hx : 0 ≤ x) (hx' : x < 65536) (hy : 0 ≤ y) (hy' : y < 702) (h : 4096 < (max r x - min r x + 1) * (max c y - min c y + 1)) :
    Calls Tryd.prog 24 #[.string s] w fun e' w' => e' = .returned (.tuple #[areaV 0 0 0 0, .int .i64 11]) ∧ Below w.heap.size w w' := by
  unfold maxLen at hs
  have t0 : ((n : Int) == 0) = false := by rw [beq_eq_false_iff_ne]; omega
  have t1 : (0 : Int) < n := by omega
  have t2 : (n : Int) < s.size := by omega
  have t4 : (n : Int) + 1 ≤ s.size := by omega
  have t5 : ((k : Int) == 0) = false := by rw [beq_eq_false_iff_ne]; omega
  have t6 : (((n : Int) + 1 + k) == 0) = false := by rw [beq_eq_false_iff_ne]; omega
  have t7 : (((n : Int) + 1 + k) != s.size) = false := by rw [bne_eq_false_iff_eq]; omega
  have t8 : (n : Int) + 1 + k ≤ s.size := by omega
  clear hn
  obtain ⟨n1, n2⟩ := prod_bound (max r x - min r x + 1) (max c y - min c y + 1) (by omega) (by omega) (by omega) (by omega)
  have m1 : 0 ≤ max r x - min r x ∧ max r x - min r x < 65536 := by omega
  have m2 : 0 ≤ max c y - min c y ∧ max c y - min c y < 702 := by omega
  obtain ⟨m1, m1'⟩ := m1
  obtain ⟨m2, m2'⟩ := m2
  go_enter Tryd.func24, Tryd.ntmps24
  try simp only [List.append]
  go_wp2_with fail
  refine (HR.out _).mono ?_
  rintro e' w1 ⟨rfl, hb1⟩
  have B1 := hide (next (step (Below.refl w.heap.size w) _) hb1)
  have z1 := hb1.size
  try simp at z1
  have ro := (O4.new w (.int .i64 0) (.int .i64 0) (.int .i64 0) (.int .i64 0) 46).keep hb1
  have oa := O4.new w1 (.int .i64 r) (.int .i64 c) (.bool p) (.bool q) 28
  have ob := O4.new (w1.alloc (refO r c p q)) (.int .i64 r) (.int .i64 c) (.bool p) (.bool q) 28
  simp only [World.size_alloc] at ob
  go_wp2_with fail
  refine (HU.out _).mono ?_
  rintro e' w2 ⟨rfl, hb2⟩
  have B2 := next (step (step B1.out _) _) hb2
  replace ro := (((ro.alloc _).alloc _).keep hb2).other (b := w1.heap.size + 1) (u0 := .int .i64 x) (u1 := .int .i64 y) (u2 := .bool p') (u3 := .bool q') (by omega)
  replace oa := ((oa.alloc _).keep hb2).other (b := w1.heap.size + 1) (u0 := .int .i64 x) (u1 := .int .i64 y) (u2 := .bool p') (u3 := .bool q') (by omega)
  have ob2 := ob.keep hb2
  obtain ⟨⟨b0, b1, b2, b3⟩, bf⟩ := ob2
  replace ob := (ob.keep hb2).put (.int .i64 x) (.int .i64 y) (.bool p') (.bool q')
  have B3 := hide (below_put4 (b := w1.heap.size + 1) B2 (by omega) (.int .i64 x) (.int .i64 y) (.bool p') (.bool q'))
  obtain ⟨w3, hw3⟩ : ∃ w3, put4 w2 (w1.heap.size + 1) (.int .i64 x) (.int .i64 y) (.bool p') (.bool q') = w3 := ⟨_, rfl⟩
  rw [hw3] at ro oa ob B3
  have z3 := B3.out.size
  unfold put4 at hw3
  obtain ⟨⟨a0, a1, a2, a3⟩, af⟩ := oa
  obtain ⟨⟨d0, d1, d2, d3⟩, df⟩ := ob
  have g0 := fun o => (ro.alloc o).1.1
  have g1 := fun o => (ro.alloc o).1.2.1
  have g2 := fun o => (ro.alloc o).1.2.2.1
  have g3 := fun o => (ro.alloc o).1.2.2.2
  have gf := fun o => (ro.alloc o).2
  clear hb1 hb2 ro B2
  go_wp2_with fail
  refine bodyPost_ret (by simp [results, Tryd.results24, go_sem, g0, g1, g2, g3]; try rfl) rfl ?_
  refine ⟨rfl, ?_⟩
  go_grown
  all_goals first | exact B3.out | omega
end Go.Proofs.YtjhfjpofmkofhaaDoor
