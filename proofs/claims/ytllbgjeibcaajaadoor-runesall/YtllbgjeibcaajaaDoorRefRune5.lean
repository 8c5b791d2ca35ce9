/- What the reference's tail and Rune answer, for every text and place: the rune that the model's own decoding gives. Proved of the Go text. -/
import Derived.Test.YtllbgjeibcaajaaDoorCase5
import Derived.Lib.DecodeN
import Derived.Deep.QuietTactic
namespace Go.Proofs.YtllbgjeibcaajaaDoor
open Go.RowKit Go.Sort
set_option linter.unusedVariables false

theorem below_drewN {B : Nat} {a w : World} (h : Below B a w) (n : Nat) : Below B a (w.drewN n) := ⟨h.os, h.tape, h.output, h.size, h.block⟩
theorem ret_two {k l : IntKind} {a b c d : Int} (h1 : a = c) (h2 : b = d) : Ending.returned (.tuple #[.int k a, .int l b]) = .returned (.tuple #[.int k c, .int l d]) := by rw [h1, h2]
/-- Is there a byte from lo to hi at j? -/
def tl (s : ByteArray) (j lo hi : Nat) : Bool := decide (j < s.size ∧ lo ≤ byt s j ∧ byt s j ≤ hi)
theorem byt_at (s : ByteArray) (j : Nat) (h : j < s.size) : byt s j = s[j].toNat := by
  unfold byt
  have hl : j < s.data.toList.length := by rw [← Lib.size_eq]; exact h
  simp [List.getD, List.getElem?_eq_getElem hl]; rfl
theorem tail_any (s : ByteArray) (j lo hi : Nat) (hj : j ≤ 9223372036854775807) : CallIs 45 #[.string s, .int .i64 j, .int .u8 lo, .int .u8 hi] (.bool (tl s j lo hi)) := by
  intro w
  by_cases h : j < s.size
  · have hb := byt_at s j h
    by_cases h1 : lo ≤ s[j].toNat
    · by_cases h2 : s[j].toNat ≤ hi
      · have e : Hid (tl s j lo hi = true) := hide (decide_eq_true (by rw [hb]; exact ⟨h, h1, h2⟩))
        have a1 : (s[j].toNat : Int) ≥ lo := by omega
        have a2 : (s[j].toNat : Int) ≤ hi := by omega
        clear hb
        go_enter Tryd.func45, Tryd.ntmps45
        go_wp2_with fail
        go_ret
        exact ⟨ret_bool (by rw [e.out]), Below.refl _ _⟩
      · have e : Hid (tl s j lo hi = false) := hide (decide_eq_false (by rw [hb]; intro h'; exact h2 h'.2.2))
        have a1 : (s[j].toNat : Int) ≥ lo := by omega
        have a2 : ¬ (s[j].toNat : Int) ≤ hi := by omega
        clear hb
        go_enter Tryd.func45, Tryd.ntmps45
        go_wp2_with fail
        go_ret
        exact ⟨ret_bool (by rw [e.out]), Below.refl _ _⟩
    · have e : Hid (tl s j lo hi = false) := hide (decide_eq_false (by rw [hb]; intro h'; exact h1 h'.2.1))
      have a1 : ¬ (s[j].toNat : Int) ≥ lo := by omega
      clear hb
      go_enter Tryd.func45, Tryd.ntmps45
      go_wp2_with fail
      go_ret
      exact ⟨ret_bool (by rw [e.out]), Below.refl _ _⟩
  · have e : Hid (tl s j lo hi = false) := hide (decide_eq_false (fun h' => h h'.1))
    have a1 : ¬ (j : Int) < s.size := by omega
    go_enter Tryd.func45, Tryd.ntmps45
    go_wp2_with fail
    go_ret
    exact ⟨ret_bool (by rw [e.out]), Below.refl _ _⟩
theorem tm (a m : Nat) : (a : Int).tmod m = ((a % m : Nat) : Int) := by rw [Int.tmod_eq_emod_of_nonneg (by omega)]; rfl
theorem w_in (x : Nat) (h : x < 9223372036854775808) : wrap64 (x : Int) = x := IntWalk.wrap64_in _ ⟨by omega, by omega⟩
theorem cl3 (a b c : Nat) (ha : a < 256) (hb : b < 256) (hc : c < 256) : wrap64 (wrap64 ((a : Int) % 16 * 4096 + wrap64 ((wrap64 (b : Int)).tmod 64 * 64)) + (wrap64 (c : Int)).tmod 64) = ((a % 16 * 4096 + b % 64 * 64 + c % 64 : Nat) : Int) := by
  rw [w_in b (by omega), w_in c (by omega), show (b : Int).tmod 64 = ((b % 64 : Nat) : Int) from tm b 64, show (c : Int).tmod 64 = ((c % 64 : Nat) : Int) from tm c 64,
    show ((b % 64 : Nat) : Int) * 64 = ((b % 64 * 64 : Nat) : Int) by omega, w_in _ (by omega), show (a : Int) % 16 * 4096 + ((b % 64 * 64 : Nat) : Int) = ((a % 16 * 4096 + b % 64 * 64 : Nat) : Int) by omega, w_in _ (by omega),
    show ((a % 16 * 4096 + b % 64 * 64 : Nat) : Int) + ((c % 64 : Nat) : Int) = ((a % 16 * 4096 + b % 64 * 64 + c % 64 : Nat) : Int) by omega, w_in _ (by omega)]
theorem cl4 (a b c d : Nat) (ha : a < 256) (hb : b < 256) (hc : c < 256) (hd : d < 256) : wrap64 (wrap64 (wrap64 ((a : Int) % 8 * 262144 + wrap64 ((wrap64 (b : Int)).tmod 64 * 4096)) + wrap64 ((wrap64 (c : Int)).tmod 64 * 64)) + (wrap64 (d : Int)).tmod 64) = ((a % 8 * 262144 + b % 64 * 4096 + c % 64 * 64 + d % 64 : Nat) : Int) := by
  rw [w_in b (by omega), w_in c (by omega), w_in d (by omega), show (b : Int).tmod 64 = ((b % 64 : Nat) : Int) from tm b 64, show (c : Int).tmod 64 = ((c % 64 : Nat) : Int) from tm c 64, show (d : Int).tmod 64 = ((d % 64 : Nat) : Int) from tm d 64,
    show ((b % 64 : Nat) : Int) * 4096 = ((b % 64 * 4096 : Nat) : Int) by omega, w_in (b % 64 * 4096) (by omega), show ((c % 64 : Nat) : Int) * 64 = ((c % 64 * 64 : Nat) : Int) by omega, w_in (c % 64 * 64) (by omega),
    show (a : Int) % 8 * 262144 + ((b % 64 * 4096 : Nat) : Int) = ((a % 8 * 262144 + b % 64 * 4096 : Nat) : Int) by omega, w_in _ (by omega),
    show ((a % 8 * 262144 + b % 64 * 4096 : Nat) : Int) + ((c % 64 * 64 : Nat) : Int) = ((a % 8 * 262144 + b % 64 * 4096 + c % 64 * 64 : Nat) : Int) by omega, w_in _ (by omega),
    show ((a % 8 * 262144 + b % 64 * 4096 + c % 64 * 64 : Nat) : Int) + ((d % 64 : Nat) : Int) = ((a % 8 * 262144 + b % 64 * 4096 + c % 64 * 64 + d % 64 : Nat) : Int) by omega, w_in _ (by omega)]
set_option maxHeartbeats 1000000 in
set_option maxRecDepth 100000 in
theorem rune_a (s : ByteArray) (i : Nat) (h : i < s.size) (hs : s.size ≤ 200000) (ha : s[i].toNat < 128) :
    CallIs 26 #[.string s, .int .i64 i] (.tuple #[.int .i64 s[i].toNat, .int .i64 1]) := by
  intro w
  have c128 : (s[i].toNat : Int) < 128 := by omega
  go_enter Tryd.func26, Tryd.ntmps26
  go_wp2_with fail
  go_ret2
  exact ⟨ret_two (by rfl) rfl, Below.refl w.heap.size w⟩
set_option maxHeartbeats 1000000 in
set_option maxRecDepth 100000 in
theorem rune_b0 (s : ByteArray) (i : Nat) (h : i < s.size) (hs : s.size ≤ 200000) (h1 : 194 ≤ s[i].toNat) (h2 : s[i].toNat ≤ 223) (t1 : tl s (i + 1) 128 191 = false) :
    CallIs 26 #[.string s, .int .i64 i] (.tuple #[.int .i64 65533, .int .i64 1]) := by
  intro w
  have H1 := tail_any s (i + 1) 128 191 (by omega)
  rw [t1, Int.natCast_add] at H1
  have c128 : ¬ (s[i].toNat : Int) < 128 := by omega
  have g194 : (s[i].toNat : Int) ≥ 194 := by omega
  have l223 : (s[i].toNat : Int) ≤ 223 := by omega
  have g224 : ¬ (s[i].toNat : Int) ≥ 224 := by omega
  have g240 : ¬ (s[i].toNat : Int) ≥ 240 := by omega
  go_enter Tryd.func26, Tryd.ntmps26
  go_wp2_with fail
  refine (H1.out _).mono ?_
  rintro e w1 ⟨rfl, hb1⟩
  go_wp2_with fail
  go_ret2
  exact ⟨ret_two (by rfl) rfl, next (Below.refl w.heap.size w) hb1⟩
set_option maxHeartbeats 1000000 in
set_option maxRecDepth 100000 in
theorem rune_b1 (s : ByteArray) (i : Nat) (h : i < s.size) (hs : s.size ≤ 200000) (h1 : 194 ≤ s[i].toNat) (h2 : s[i].toNat ≤ 223) (t1 : tl s (i + 1) 128 191 = true) (hy : i + 1 < s.size) :
    CallIs 26 #[.string s, .int .i64 i] (.tuple #[.int .i64 ((s[i].toNat % 32 * 64 + s[i + 1].toNat % 64 : Nat) : Int), .int .i64 2]) := by
  intro w
  have H1 := tail_any s (i + 1) 128 191 (by omega)
  rw [t1, Int.natCast_add] at H1
  have p1 : i + 1 < s.size := (of_decide_eq_true t1).1
  have c128 : ¬ (s[i].toNat : Int) < 128 := by omega
  have g194 : (s[i].toNat : Int) ≥ 194 := by omega
  have l223 : (s[i].toNat : Int) ≤ 223 := by omega
  have m0 : (s[i].toNat : Int).tmod 32 = ((s[i].toNat % 32 : Nat) : Int) := tm _ _
  have m1 : ((s[i + 1]).toNat : Int).tmod 64 = ((s[i + 1].toNat % 64 : Nat) : Int) := tm _ _
  go_enter Tryd.func26, Tryd.ntmps26
  go_wp2_with fail
  refine (H1.out _).mono ?_
  rintro e w1 ⟨rfl, hb1⟩
  go_wp2_with fail
  go_ret2
  exact ⟨ret_two (by have := s[i].toNat_lt; have := s[i + 1].toNat_lt; rw [IntWalk.wrap64_in (s[i + 1].toNat : Int) ⟨by omega, by omega⟩, show (s[i + 1].toNat : Int).tmod 64 = ((s[i + 1].toNat % 64 : Nat) : Int) from tm _ 64, IntWalk.wrap64_in _ ⟨by omega, by omega⟩]; omega) rfl, next (Below.refl w.heap.size w) hb1⟩
set_option maxHeartbeats 1000000 in
set_option maxRecDepth 100000 in
theorem rune_e00 (s : ByteArray) (i : Nat) (h : i < s.size) (hs : s.size ≤ 200000) (h1 : Hid (s[i].toNat = 224)) (t1 : tl s (i + 1) 160 191 = false) :
    CallIs 26 #[.string s, .int .i64 i] (.tuple #[.int .i64 65533, .int .i64 1]) := by
  intro w
  have H1 := tail_any s (i + 1) 160 191 (by omega)
  rw [t1, Int.natCast_add] at H1
  have hh := h1.out
  have c128 : ¬ (s[i].toNat : Int) < 128 := by omega
  have g194 : (s[i].toNat : Int) ≥ 194 := by omega
  have l223 : ¬ (s[i].toNat : Int) ≤ 223 := by omega
  have g224 : (s[i].toNat : Int) ≥ 224 := by omega
  have l239 : (s[i].toNat : Int) ≤ 239 := by omega
  have q224 : ((s[i].toNat : Int) == 224) = true := by rw [beq_iff_eq]; omega
  have q237 : ((s[i].toNat : Int) == 237) = false := by rw [beq_eq_false_iff_ne]; omega
  clear hh
  go_enter Tryd.func26, Tryd.ntmps26
  go_wp2_with fail
  refine (H1.out _).mono ?_
  rintro e w1 ⟨rfl, hb1⟩
  go_wp2_with fail
  go_ret2
  exact ⟨ret_two (by rfl) rfl, next (Below.refl w.heap.size w) hb1⟩
set_option maxHeartbeats 1000000 in
set_option maxRecDepth 100000 in
theorem rune_e01 (s : ByteArray) (i : Nat) (h : i < s.size) (hs : s.size ≤ 200000) (h1 : Hid (s[i].toNat = 224)) (t1 : tl s (i + 1) 160 191 = true) (t2 : tl s (i + 2) 128 191 = false) :
    CallIs 26 #[.string s, .int .i64 i] (.tuple #[.int .i64 65533, .int .i64 1]) := by
  intro w
  have H1 := tail_any s (i + 1) 160 191 (by omega)
  rw [t1, Int.natCast_add] at H1
  have p1 : i + 1 < s.size := (of_decide_eq_true t1).1
  have H2 := tail_any s (i + 2) 128 191 (by omega)
  rw [t2, Int.natCast_add] at H2
  have hh := h1.out
  have c128 : ¬ (s[i].toNat : Int) < 128 := by omega
  have g194 : (s[i].toNat : Int) ≥ 194 := by omega
  have l223 : ¬ (s[i].toNat : Int) ≤ 223 := by omega
  have g224 : (s[i].toNat : Int) ≥ 224 := by omega
  have l239 : (s[i].toNat : Int) ≤ 239 := by omega
  have q224 : ((s[i].toNat : Int) == 224) = true := by rw [beq_iff_eq]; omega
  have q237 : ((s[i].toNat : Int) == 237) = false := by rw [beq_eq_false_iff_ne]; omega
  clear hh
  go_enter Tryd.func26, Tryd.ntmps26
  go_wp2_with fail
  refine (H1.out _).mono ?_
  rintro e w1 ⟨rfl, hb1⟩
  go_wp2_with fail
  refine (H2.out _).mono ?_
  rintro e w2 ⟨rfl, hb2⟩
  go_wp2_with fail
  go_ret2
  exact ⟨ret_two (by rfl) rfl, next (next (Below.refl w.heap.size w) hb1) hb2⟩
set_option maxHeartbeats 1000000 in
set_option maxRecDepth 100000 in
theorem rune_e02 (s : ByteArray) (i : Nat) (h : i < s.size) (hs : s.size ≤ 200000) (h1 : Hid (s[i].toNat = 224)) (t1 : tl s (i + 1) 160 191 = true) (t2 : tl s (i + 2) 128 191 = true) (j1 j2 : Nat) (e1 : j1 = i + 1) (e2 : j2 = i + 2) (hy1 : j1 < s.size) (hy2 : j2 < s.size) :
    CallIs 26 #[.string s, .int .i64 i] (.tuple #[.int .i64 ((s[i].toNat % 16 * 4096 + s[j1].toNat % 64 * 64 + s[j2].toNat % 64 : Nat) : Int), .int .i64 3]) := by
  intro w
  have H1 := tail_any s (i + 1) 160 191 (by omega)
  rw [t1, Int.natCast_add] at H1
  have p1 : i + 1 < s.size := (of_decide_eq_true t1).1
  have H2 := tail_any s (i + 2) 128 191 (by omega)
  rw [t2, Int.natCast_add] at H2
  have p2 : i + 2 < s.size := (of_decide_eq_true t2).1
  have hh := h1.out
  have c128 : ¬ (s[i].toNat : Int) < 128 := by omega
  have g194 : (s[i].toNat : Int) ≥ 194 := by omega
  have l223 : ¬ (s[i].toNat : Int) ≤ 223 := by omega
  have g224 : (s[i].toNat : Int) ≥ 224 := by omega
  have l239 : (s[i].toNat : Int) ≤ 239 := by omega
  have q224 : ((s[i].toNat : Int) == 224) = true := by rw [beq_iff_eq]; omega
  have q237 : ((s[i].toNat : Int) == 237) = false := by rw [beq_eq_false_iff_ne]; omega
  clear hh
  go_enter Tryd.func26, Tryd.ntmps26
  go_wp2_with fail
  refine (H1.out _).mono ?_
  rintro e w1 ⟨rfl, hb1⟩
  go_wp2_with fail
  refine (H2.out _).mono ?_
  rintro e w2 ⟨rfl, hb2⟩
  go_wp2_with fail
  have pi1 : (j1 : Int) < s.size := by omega
  have wi1 : IntKind.i64.wrap ((i : Int) + 1) = (j1 : Int) := by rw [wrap_small _ (by omega) (by omega)]; omega
  replace e1 := hide e1
  have pi2 : (j2 : Int) < s.size := by omega
  have wi2 : IntKind.i64.wrap ((i : Int) + 2) = (j2 : Int) := by rw [wrap_small _ (by omega) (by omega)]; omega
  replace e2 := hide e2
  go_quiet (fail)
  go_wp2_with fail
  go_ret2
  exact ⟨ret_two (by exact cl3 _ _ _ s[i].toNat_lt s[j1].toNat_lt s[j2].toNat_lt) rfl, below_drewN (next (next (Below.refl w.heap.size w) hb1) hb2) _⟩
set_option maxHeartbeats 1000000 in
set_option maxRecDepth 100000 in
theorem rune_ed0 (s : ByteArray) (i : Nat) (h : i < s.size) (hs : s.size ≤ 200000) (h1 : Hid (s[i].toNat = 237)) (t1 : tl s (i + 1) 128 159 = false) :
    CallIs 26 #[.string s, .int .i64 i] (.tuple #[.int .i64 65533, .int .i64 1]) := by
  intro w
  have H1 := tail_any s (i + 1) 128 159 (by omega)
  rw [t1, Int.natCast_add] at H1
  have hh := h1.out
  have c128 : ¬ (s[i].toNat : Int) < 128 := by omega
  have g194 : (s[i].toNat : Int) ≥ 194 := by omega
  have l223 : ¬ (s[i].toNat : Int) ≤ 223 := by omega
  have g224 : (s[i].toNat : Int) ≥ 224 := by omega
  have l239 : (s[i].toNat : Int) ≤ 239 := by omega
  have q224 : ((s[i].toNat : Int) == 224) = false := by rw [beq_eq_false_iff_ne]; omega
  have q237 : ((s[i].toNat : Int) == 237) = true := by rw [beq_iff_eq]; omega
  clear hh
  go_enter Tryd.func26, Tryd.ntmps26
  go_wp2_with fail
  refine (H1.out _).mono ?_
  rintro e w1 ⟨rfl, hb1⟩
  go_wp2_with fail
  go_ret2
  exact ⟨ret_two (by rfl) rfl, next (Below.refl w.heap.size w) hb1⟩
set_option maxHeartbeats 1000000 in
set_option maxRecDepth 100000 in
theorem rune_ed1 (s : ByteArray) (i : Nat) (h : i < s.size) (hs : s.size ≤ 200000) (h1 : Hid (s[i].toNat = 237)) (t1 : tl s (i + 1) 128 159 = true) (t2 : tl s (i + 2) 128 191 = false) :
    CallIs 26 #[.string s, .int .i64 i] (.tuple #[.int .i64 65533, .int .i64 1]) := by
  intro w
  have H1 := tail_any s (i + 1) 128 159 (by omega)
  rw [t1, Int.natCast_add] at H1
  have p1 : i + 1 < s.size := (of_decide_eq_true t1).1
  have H2 := tail_any s (i + 2) 128 191 (by omega)
  rw [t2, Int.natCast_add] at H2
  have hh := h1.out
  have c128 : ¬ (s[i].toNat : Int) < 128 := by omega
  have g194 : (s[i].toNat : Int) ≥ 194 := by omega
  have l223 : ¬ (s[i].toNat : Int) ≤ 223 := by omega
  have g224 : (s[i].toNat : Int) ≥ 224 := by omega
  have l239 : (s[i].toNat : Int) ≤ 239 := by omega
  have q224 : ((s[i].toNat : Int) == 224) = false := by rw [beq_eq_false_iff_ne]; omega
  have q237 : ((s[i].toNat : Int) == 237) = true := by rw [beq_iff_eq]; omega
  clear hh
  go_enter Tryd.func26, Tryd.ntmps26
  go_wp2_with fail
  refine (H1.out _).mono ?_
  rintro e w1 ⟨rfl, hb1⟩
  go_wp2_with fail
  refine (H2.out _).mono ?_
  rintro e w2 ⟨rfl, hb2⟩
  go_wp2_with fail
  go_ret2
  exact ⟨ret_two (by rfl) rfl, next (next (Below.refl w.heap.size w) hb1) hb2⟩
set_option maxHeartbeats 1000000 in
set_option maxRecDepth 100000 in
theorem rune_ed2 (s : ByteArray) (i : Nat) (h : i < s.size) (hs : s.size ≤ 200000) (h1 : Hid (s[i].toNat = 237)) (t1 : tl s (i + 1) 128 159 = true) (t2 : tl s (i + 2) 128 191 = true) (j1 j2 : Nat) (e1 : j1 = i + 1) (e2 : j2 = i + 2) (hy1 : j1 < s.size) (hy2 : j2 < s.size) :
    CallIs 26 #[.string s, .int .i64 i] (.tuple #[.int .i64 ((s[i].toNat % 16 * 4096 + s[j1].toNat % 64 * 64 + s[j2].toNat % 64 : Nat) : Int), .int .i64 3]) := by
  intro w
  have H1 := tail_any s (i + 1) 128 159 (by omega)
  rw [t1, Int.natCast_add] at H1
  have p1 : i + 1 < s.size := (of_decide_eq_true t1).1
  have H2 := tail_any s (i + 2) 128 191 (by omega)
  rw [t2, Int.natCast_add] at H2
  have p2 : i + 2 < s.size := (of_decide_eq_true t2).1
  have hh := h1.out
  have c128 : ¬ (s[i].toNat : Int) < 128 := by omega
  have g194 : (s[i].toNat : Int) ≥ 194 := by omega
  have l223 : ¬ (s[i].toNat : Int) ≤ 223 := by omega
  have g224 : (s[i].toNat : Int) ≥ 224 := by omega
  have l239 : (s[i].toNat : Int) ≤ 239 := by omega
  have q224 : ((s[i].toNat : Int) == 224) = false := by rw [beq_eq_false_iff_ne]; omega
  have q237 : ((s[i].toNat : Int) == 237) = true := by rw [beq_iff_eq]; omega
  clear hh
  go_enter Tryd.func26, Tryd.ntmps26
  go_wp2_with fail
  refine (H1.out _).mono ?_
  rintro e w1 ⟨rfl, hb1⟩
  go_wp2_with fail
  refine (H2.out _).mono ?_
  rintro e w2 ⟨rfl, hb2⟩
  go_wp2_with fail
  have pi1 : (j1 : Int) < s.size := by omega
  have wi1 : IntKind.i64.wrap ((i : Int) + 1) = (j1 : Int) := by rw [wrap_small _ (by omega) (by omega)]; omega
  replace e1 := hide e1
  have pi2 : (j2 : Int) < s.size := by omega
  have wi2 : IntKind.i64.wrap ((i : Int) + 2) = (j2 : Int) := by rw [wrap_small _ (by omega) (by omega)]; omega
  replace e2 := hide e2
  go_quiet (fail)
  go_wp2_with fail
  go_ret2
  exact ⟨ret_two (by exact cl3 _ _ _ s[i].toNat_lt s[j1].toNat_lt s[j2].toNat_lt) rfl, below_drewN (next (next (Below.refl w.heap.size w) hb1) hb2) _⟩
set_option maxHeartbeats 1000000 in
set_option maxRecDepth 100000 in
theorem rune_ee0 (s : ByteArray) (i : Nat) (h : i < s.size) (hs : s.size ≤ 200000) (h1 : 224 ≤ s[i].toNat) (h2 : s[i].toNat ≤ 239) (h3 : s[i].toNat ≠ 224) (h4 : s[i].toNat ≠ 237) (t1 : tl s (i + 1) 128 191 = false) :
    CallIs 26 #[.string s, .int .i64 i] (.tuple #[.int .i64 65533, .int .i64 1]) := by
  intro w
  have H1 := tail_any s (i + 1) 128 191 (by omega)
  rw [t1, Int.natCast_add] at H1
  have c128 : ¬ (s[i].toNat : Int) < 128 := by omega
  have g194 : (s[i].toNat : Int) ≥ 194 := by omega
  have l223 : ¬ (s[i].toNat : Int) ≤ 223 := by omega
  have g224 : (s[i].toNat : Int) ≥ 224 := by omega
  have l239 : (s[i].toNat : Int) ≤ 239 := by omega
  have q224 : ((s[i].toNat : Int) == 224) = false := by rw [beq_eq_false_iff_ne]; omega
  have q237 : ((s[i].toNat : Int) == 237) = false := by rw [beq_eq_false_iff_ne]; omega
  go_enter Tryd.func26, Tryd.ntmps26
  go_wp2_with fail
  refine (H1.out _).mono ?_
  rintro e w1 ⟨rfl, hb1⟩
  go_wp2_with fail
  go_ret2
  exact ⟨ret_two (by rfl) rfl, next (Below.refl w.heap.size w) hb1⟩
set_option maxHeartbeats 1000000 in
set_option maxRecDepth 100000 in
theorem rune_ee1 (s : ByteArray) (i : Nat) (h : i < s.size) (hs : s.size ≤ 200000) (h1 : 224 ≤ s[i].toNat) (h2 : s[i].toNat ≤ 239) (h3 : s[i].toNat ≠ 224) (h4 : s[i].toNat ≠ 237) (t1 : tl s (i + 1) 128 191 = true) (t2 : tl s (i + 2) 128 191 = false) :
    CallIs 26 #[.string s, .int .i64 i] (.tuple #[.int .i64 65533, .int .i64 1]) := by
  intro w
  have H1 := tail_any s (i + 1) 128 191 (by omega)
  rw [t1, Int.natCast_add] at H1
  have p1 : i + 1 < s.size := (of_decide_eq_true t1).1
  have H2 := tail_any s (i + 2) 128 191 (by omega)
  rw [t2, Int.natCast_add] at H2
  have c128 : ¬ (s[i].toNat : Int) < 128 := by omega
  have g194 : (s[i].toNat : Int) ≥ 194 := by omega
  have l223 : ¬ (s[i].toNat : Int) ≤ 223 := by omega
  have g224 : (s[i].toNat : Int) ≥ 224 := by omega
  have l239 : (s[i].toNat : Int) ≤ 239 := by omega
  have q224 : ((s[i].toNat : Int) == 224) = false := by rw [beq_eq_false_iff_ne]; omega
  have q237 : ((s[i].toNat : Int) == 237) = false := by rw [beq_eq_false_iff_ne]; omega
  go_enter Tryd.func26, Tryd.ntmps26
  go_wp2_with fail
  refine (H1.out _).mono ?_
  rintro e w1 ⟨rfl, hb1⟩
  go_wp2_with fail
  refine (H2.out _).mono ?_
  rintro e w2 ⟨rfl, hb2⟩
  go_wp2_with fail
  go_ret2
  exact ⟨ret_two (by rfl) rfl, next (next (Below.refl w.heap.size w) hb1) hb2⟩
set_option maxHeartbeats 1000000 in
set_option maxRecDepth 100000 in
theorem rune_ee2 (s : ByteArray) (i : Nat) (h : i < s.size) (hs : s.size ≤ 200000) (h1 : 224 ≤ s[i].toNat) (h2 : s[i].toNat ≤ 239) (h3 : s[i].toNat ≠ 224) (h4 : s[i].toNat ≠ 237) (t1 : tl s (i + 1) 128 191 = true) (t2 : tl s (i + 2) 128 191 = true) (j1 j2 : Nat) (e1 : j1 = i + 1) (e2 : j2 = i + 2) (hy1 : j1 < s.size) (hy2 : j2 < s.size) :
    CallIs 26 #[.string s, .int .i64 i] (.tuple #[.int .i64 ((s[i].toNat % 16 * 4096 + s[j1].toNat % 64 * 64 + s[j2].toNat % 64 : Nat) : Int), .int .i64 3]) := by
  intro w
  have H1 := tail_any s (i + 1) 128 191 (by omega)
  rw [t1, Int.natCast_add] at H1
  have p1 : i + 1 < s.size := (of_decide_eq_true t1).1
  have H2 := tail_any s (i + 2) 128 191 (by omega)
  rw [t2, Int.natCast_add] at H2
  have p2 : i + 2 < s.size := (of_decide_eq_true t2).1
  have c128 : ¬ (s[i].toNat : Int) < 128 := by omega
  have g194 : (s[i].toNat : Int) ≥ 194 := by omega
  have l223 : ¬ (s[i].toNat : Int) ≤ 223 := by omega
  have g224 : (s[i].toNat : Int) ≥ 224 := by omega
  have l239 : (s[i].toNat : Int) ≤ 239 := by omega
  have q224 : ((s[i].toNat : Int) == 224) = false := by rw [beq_eq_false_iff_ne]; omega
  have q237 : ((s[i].toNat : Int) == 237) = false := by rw [beq_eq_false_iff_ne]; omega
  go_enter Tryd.func26, Tryd.ntmps26
  go_wp2_with fail
  refine (H1.out _).mono ?_
  rintro e w1 ⟨rfl, hb1⟩
  go_wp2_with fail
  refine (H2.out _).mono ?_
  rintro e w2 ⟨rfl, hb2⟩
  go_wp2_with fail
  have pi1 : (j1 : Int) < s.size := by omega
  have wi1 : IntKind.i64.wrap ((i : Int) + 1) = (j1 : Int) := by rw [wrap_small _ (by omega) (by omega)]; omega
  replace e1 := hide e1
  have pi2 : (j2 : Int) < s.size := by omega
  have wi2 : IntKind.i64.wrap ((i : Int) + 2) = (j2 : Int) := by rw [wrap_small _ (by omega) (by omega)]; omega
  replace e2 := hide e2
  go_quiet (fail)
  go_wp2_with fail
  go_ret2
  exact ⟨ret_two (by exact cl3 _ _ _ s[i].toNat_lt s[j1].toNat_lt s[j2].toNat_lt) rfl, below_drewN (next (next (Below.refl w.heap.size w) hb1) hb2) _⟩
set_option maxHeartbeats 1000000 in
set_option maxRecDepth 100000 in
theorem rune_f00 (s : ByteArray) (i : Nat) (h : i < s.size) (hs : s.size ≤ 200000) (h1 : Hid (s[i].toNat = 240)) (t1 : tl s (i + 1) 144 191 = false) :
    CallIs 26 #[.string s, .int .i64 i] (.tuple #[.int .i64 65533, .int .i64 1]) := by
  intro w
  have H1 := tail_any s (i + 1) 144 191 (by omega)
  rw [t1, Int.natCast_add] at H1
  have hh := h1.out
  have c128 : ¬ (s[i].toNat : Int) < 128 := by omega
  have g194 : (s[i].toNat : Int) ≥ 194 := by omega
  have l223 : ¬ (s[i].toNat : Int) ≤ 223 := by omega
  have g224 : (s[i].toNat : Int) ≥ 224 := by omega
  have l239 : ¬ (s[i].toNat : Int) ≤ 239 := by omega
  have g240 : (s[i].toNat : Int) ≥ 240 := by omega
  have l244 : (s[i].toNat : Int) ≤ 244 := by omega
  have q240 : ((s[i].toNat : Int) == 240) = true := by rw [beq_iff_eq]; omega
  have q244 : ((s[i].toNat : Int) == 244) = false := by rw [beq_eq_false_iff_ne]; omega
  clear hh
  go_enter Tryd.func26, Tryd.ntmps26
  go_wp2_with fail
  refine (H1.out _).mono ?_
  rintro e w1 ⟨rfl, hb1⟩
  go_wp2_with fail
  go_ret2
  exact ⟨ret_two (by rfl) rfl, next (Below.refl w.heap.size w) hb1⟩
set_option maxHeartbeats 1000000 in
set_option maxRecDepth 100000 in
theorem rune_f01 (s : ByteArray) (i : Nat) (h : i < s.size) (hs : s.size ≤ 200000) (h1 : Hid (s[i].toNat = 240)) (t1 : tl s (i + 1) 144 191 = true) (t2 : tl s (i + 2) 128 191 = false) :
    CallIs 26 #[.string s, .int .i64 i] (.tuple #[.int .i64 65533, .int .i64 1]) := by
  intro w
  have H1 := tail_any s (i + 1) 144 191 (by omega)
  rw [t1, Int.natCast_add] at H1
  have p1 : i + 1 < s.size := (of_decide_eq_true t1).1
  have H2 := tail_any s (i + 2) 128 191 (by omega)
  rw [t2, Int.natCast_add] at H2
  have hh := h1.out
  have c128 : ¬ (s[i].toNat : Int) < 128 := by omega
  have g194 : (s[i].toNat : Int) ≥ 194 := by omega
  have l223 : ¬ (s[i].toNat : Int) ≤ 223 := by omega
  have g224 : (s[i].toNat : Int) ≥ 224 := by omega
  have l239 : ¬ (s[i].toNat : Int) ≤ 239 := by omega
  have g240 : (s[i].toNat : Int) ≥ 240 := by omega
  have l244 : (s[i].toNat : Int) ≤ 244 := by omega
  have q240 : ((s[i].toNat : Int) == 240) = true := by rw [beq_iff_eq]; omega
  have q244 : ((s[i].toNat : Int) == 244) = false := by rw [beq_eq_false_iff_ne]; omega
  clear hh
  go_enter Tryd.func26, Tryd.ntmps26
  go_wp2_with fail
  refine (H1.out _).mono ?_
  rintro e w1 ⟨rfl, hb1⟩
  go_wp2_with fail
  refine (H2.out _).mono ?_
  rintro e w2 ⟨rfl, hb2⟩
  go_wp2_with fail
  go_ret2
  exact ⟨ret_two (by rfl) rfl, next (next (Below.refl w.heap.size w) hb1) hb2⟩
set_option maxHeartbeats 1000000 in
set_option maxRecDepth 100000 in
theorem rune_f02 (s : ByteArray) (i : Nat) (h : i < s.size) (hs : s.size ≤ 200000) (h1 : Hid (s[i].toNat = 240)) (t1 : tl s (i + 1) 144 191 = true) (t2 : tl s (i + 2) 128 191 = true) (t3 : tl s (i + 3) 128 191 = false) :
    CallIs 26 #[.string s, .int .i64 i] (.tuple #[.int .i64 65533, .int .i64 1]) := by
  intro w
  have H1 := tail_any s (i + 1) 144 191 (by omega)
  rw [t1, Int.natCast_add] at H1
  have p1 : i + 1 < s.size := (of_decide_eq_true t1).1
  have H2 := tail_any s (i + 2) 128 191 (by omega)
  rw [t2, Int.natCast_add] at H2
  have p2 : i + 2 < s.size := (of_decide_eq_true t2).1
  have H3 := tail_any s (i + 3) 128 191 (by omega)
  rw [t3, Int.natCast_add] at H3
  have hh := h1.out
  have c128 : ¬ (s[i].toNat : Int) < 128 := by omega
  have g194 : (s[i].toNat : Int) ≥ 194 := by omega
  have l223 : ¬ (s[i].toNat : Int) ≤ 223 := by omega
  have g224 : (s[i].toNat : Int) ≥ 224 := by omega
  have l239 : ¬ (s[i].toNat : Int) ≤ 239 := by omega
  have g240 : (s[i].toNat : Int) ≥ 240 := by omega
  have l244 : (s[i].toNat : Int) ≤ 244 := by omega
  have q240 : ((s[i].toNat : Int) == 240) = true := by rw [beq_iff_eq]; omega
  have q244 : ((s[i].toNat : Int) == 244) = false := by rw [beq_eq_false_iff_ne]; omega
  clear hh
  go_enter Tryd.func26, Tryd.ntmps26
  go_wp2_with fail
  refine (H1.out _).mono ?_
  rintro e w1 ⟨rfl, hb1⟩
  go_wp2_with fail
  refine (H2.out _).mono ?_
  rintro e w2 ⟨rfl, hb2⟩
  go_wp2_with fail
  refine (H3.out _).mono ?_
  rintro e w3 ⟨rfl, hb3⟩
  go_wp2_with fail
  go_ret2
  exact ⟨ret_two (by rfl) rfl, next (next (next (Below.refl w.heap.size w) hb1) hb2) hb3⟩
set_option maxHeartbeats 1000000 in
set_option maxRecDepth 100000 in
theorem rune_f03 (s : ByteArray) (i : Nat) (h : i < s.size) (hs : s.size ≤ 200000) (h1 : Hid (s[i].toNat = 240)) (t1 : tl s (i + 1) 144 191 = true) (t2 : tl s (i + 2) 128 191 = true) (t3 : tl s (i + 3) 128 191 = true) (j1 j2 j3 : Nat) (e1 : j1 = i + 1) (e2 : j2 = i + 2) (e3 : j3 = i + 3) (hy1 : j1 < s.size) (hy2 : j2 < s.size) (hy3 : j3 < s.size) :
    CallIs 26 #[.string s, .int .i64 i] (.tuple #[.int .i64 ((s[i].toNat % 8 * 262144 + s[j1].toNat % 64 * 4096 + s[j2].toNat % 64 * 64 + s[j3].toNat % 64 : Nat) : Int), .int .i64 4]) := by
  intro w
  have H1 := tail_any s (i + 1) 144 191 (by omega)
  rw [t1, Int.natCast_add] at H1
  have p1 : i + 1 < s.size := (of_decide_eq_true t1).1
  have H2 := tail_any s (i + 2) 128 191 (by omega)
  rw [t2, Int.natCast_add] at H2
  have p2 : i + 2 < s.size := (of_decide_eq_true t2).1
  have H3 := tail_any s (i + 3) 128 191 (by omega)
  rw [t3, Int.natCast_add] at H3
  have p3 : i + 3 < s.size := (of_decide_eq_true t3).1
  have hh := h1.out
  have c128 : ¬ (s[i].toNat : Int) < 128 := by omega
  have g194 : (s[i].toNat : Int) ≥ 194 := by omega
  have l223 : ¬ (s[i].toNat : Int) ≤ 223 := by omega
  have g224 : (s[i].toNat : Int) ≥ 224 := by omega
  have l239 : ¬ (s[i].toNat : Int) ≤ 239 := by omega
  have g240 : (s[i].toNat : Int) ≥ 240 := by omega
  have l244 : (s[i].toNat : Int) ≤ 244 := by omega
  have q240 : ((s[i].toNat : Int) == 240) = true := by rw [beq_iff_eq]; omega
  have q244 : ((s[i].toNat : Int) == 244) = false := by rw [beq_eq_false_iff_ne]; omega
  clear hh
  go_enter Tryd.func26, Tryd.ntmps26
  go_wp2_with fail
  refine (H1.out _).mono ?_
  rintro e w1 ⟨rfl, hb1⟩
  go_wp2_with fail
  refine (H2.out _).mono ?_
  rintro e w2 ⟨rfl, hb2⟩
  go_wp2_with fail
  refine (H3.out _).mono ?_
  rintro e w3 ⟨rfl, hb3⟩
  go_wp2_with fail
  have pi1 : (j1 : Int) < s.size := by omega
  have wi1 : IntKind.i64.wrap ((i : Int) + 1) = (j1 : Int) := by rw [wrap_small _ (by omega) (by omega)]; omega
  replace e1 := hide e1
  have pi2 : (j2 : Int) < s.size := by omega
  have wi2 : IntKind.i64.wrap ((i : Int) + 2) = (j2 : Int) := by rw [wrap_small _ (by omega) (by omega)]; omega
  replace e2 := hide e2
  have pi3 : (j3 : Int) < s.size := by omega
  have wi3 : IntKind.i64.wrap ((i : Int) + 3) = (j3 : Int) := by rw [wrap_small _ (by omega) (by omega)]; omega
  replace e3 := hide e3
  go_quiet (fail)
  go_wp2_with fail
  go_ret2
  exact ⟨ret_two (by exact cl4 _ _ _ _ s[i].toNat_lt s[j1].toNat_lt s[j2].toNat_lt s[j3].toNat_lt) rfl, below_drewN (next (next (next (Below.refl w.heap.size w) hb1) hb2) hb3) _⟩
set_option maxHeartbeats 1000000 in
set_option maxRecDepth 100000 in
theorem rune_f40 (s : ByteArray) (i : Nat) (h : i < s.size) (hs : s.size ≤ 200000) (h1 : Hid (s[i].toNat = 244)) (t1 : tl s (i + 1) 128 143 = false) :
    CallIs 26 #[.string s, .int .i64 i] (.tuple #[.int .i64 65533, .int .i64 1]) := by
  intro w
  have H1 := tail_any s (i + 1) 128 143 (by omega)
  rw [t1, Int.natCast_add] at H1
  have hh := h1.out
  have c128 : ¬ (s[i].toNat : Int) < 128 := by omega
  have g194 : (s[i].toNat : Int) ≥ 194 := by omega
  have l223 : ¬ (s[i].toNat : Int) ≤ 223 := by omega
  have g224 : (s[i].toNat : Int) ≥ 224 := by omega
  have l239 : ¬ (s[i].toNat : Int) ≤ 239 := by omega
  have g240 : (s[i].toNat : Int) ≥ 240 := by omega
  have l244 : (s[i].toNat : Int) ≤ 244 := by omega
  have q240 : ((s[i].toNat : Int) == 240) = false := by rw [beq_eq_false_iff_ne]; omega
  have q244 : ((s[i].toNat : Int) == 244) = true := by rw [beq_iff_eq]; omega
  clear hh
  go_enter Tryd.func26, Tryd.ntmps26
  go_wp2_with fail
  refine (H1.out _).mono ?_
  rintro e w1 ⟨rfl, hb1⟩
  go_wp2_with fail
  go_ret2
  exact ⟨ret_two (by rfl) rfl, next (Below.refl w.heap.size w) hb1⟩
set_option maxHeartbeats 1000000 in
set_option maxRecDepth 100000 in
theorem rune_f41 (s : ByteArray) (i : Nat) (h : i < s.size) (hs : s.size ≤ 200000) (h1 : Hid (s[i].toNat = 244)) (t1 : tl s (i + 1) 128 143 = true) (t2 : tl s (i + 2) 128 191 = false) :
    CallIs 26 #[.string s, .int .i64 i] (.tuple #[.int .i64 65533, .int .i64 1]) := by
  intro w
  have H1 := tail_any s (i + 1) 128 143 (by omega)
  rw [t1, Int.natCast_add] at H1
  have p1 : i + 1 < s.size := (of_decide_eq_true t1).1
  have H2 := tail_any s (i + 2) 128 191 (by omega)
  rw [t2, Int.natCast_add] at H2
  have hh := h1.out
  have c128 : ¬ (s[i].toNat : Int) < 128 := by omega
  have g194 : (s[i].toNat : Int) ≥ 194 := by omega
  have l223 : ¬ (s[i].toNat : Int) ≤ 223 := by omega
  have g224 : (s[i].toNat : Int) ≥ 224 := by omega
  have l239 : ¬ (s[i].toNat : Int) ≤ 239 := by omega
  have g240 : (s[i].toNat : Int) ≥ 240 := by omega
  have l244 : (s[i].toNat : Int) ≤ 244 := by omega
  have q240 : ((s[i].toNat : Int) == 240) = false := by rw [beq_eq_false_iff_ne]; omega
  have q244 : ((s[i].toNat : Int) == 244) = true := by rw [beq_iff_eq]; omega
  clear hh
  go_enter Tryd.func26, Tryd.ntmps26
  go_wp2_with fail
  refine (H1.out _).mono ?_
  rintro e w1 ⟨rfl, hb1⟩
  go_wp2_with fail
  refine (H2.out _).mono ?_
  rintro e w2 ⟨rfl, hb2⟩
  go_wp2_with fail
  go_ret2
  exact ⟨ret_two (by rfl) rfl, next (next (Below.refl w.heap.size w) hb1) hb2⟩
set_option maxHeartbeats 1000000 in
set_option maxRecDepth 100000 in
theorem rune_f42 (s : ByteArray) (i : Nat) (h : i < s.size) (hs : s.size ≤ 200000) (h1 : Hid (s[i].toNat = 244)) (t1 : tl s (i + 1) 128 143 = true) (t2 : tl s (i + 2) 128 191 = true) (t3 : tl s (i + 3) 128 191 = false) :
    CallIs 26 #[.string s, .int .i64 i] (.tuple #[.int .i64 65533, .int .i64 1]) := by
  intro w
  have H1 := tail_any s (i + 1) 128 143 (by omega)
  rw [t1, Int.natCast_add] at H1
  have p1 : i + 1 < s.size := (of_decide_eq_true t1).1
  have H2 := tail_any s (i + 2) 128 191 (by omega)
  rw [t2, Int.natCast_add] at H2
  have p2 : i + 2 < s.size := (of_decide_eq_true t2).1
  have H3 := tail_any s (i + 3) 128 191 (by omega)
  rw [t3, Int.natCast_add] at H3
  have hh := h1.out
  have c128 : ¬ (s[i].toNat : Int) < 128 := by omega
  have g194 : (s[i].toNat : Int) ≥ 194 := by omega
  have l223 : ¬ (s[i].toNat : Int) ≤ 223 := by omega
  have g224 : (s[i].toNat : Int) ≥ 224 := by omega
  have l239 : ¬ (s[i].toNat : Int) ≤ 239 := by omega
  have g240 : (s[i].toNat : Int) ≥ 240 := by omega
  have l244 : (s[i].toNat : Int) ≤ 244 := by omega
  have q240 : ((s[i].toNat : Int) == 240) = false := by rw [beq_eq_false_iff_ne]; omega
  have q244 : ((s[i].toNat : Int) == 244) = true := by rw [beq_iff_eq]; omega
  clear hh
  go_enter Tryd.func26, Tryd.ntmps26
  go_wp2_with fail
  refine (H1.out _).mono ?_
  rintro e w1 ⟨rfl, hb1⟩
  go_wp2_with fail
  refine (H2.out _).mono ?_
  rintro e w2 ⟨rfl, hb2⟩
  go_wp2_with fail
  refine (H3.out _).mono ?_
  rintro e w3 ⟨rfl, hb3⟩
  go_wp2_with fail
  go_ret2
  exact ⟨ret_two (by rfl) rfl, next (next (next (Below.refl w.heap.size w) hb1) hb2) hb3⟩
set_option maxHeartbeats 1000000 in
set_option maxRecDepth 100000 in
theorem rune_f43 (s : ByteArray) (i : Nat) (h : i < s.size) (hs : s.size ≤ 200000) (h1 : Hid (s[i].toNat = 244)) (t1 : tl s (i + 1) 128 143 = true) (t2 : tl s (i + 2) 128 191 = true) (t3 : tl s (i + 3) 128 191 = true) (j1 j2 j3 : Nat) (e1 : j1 = i + 1) (e2 : j2 = i + 2) (e3 : j3 = i + 3) (hy1 : j1 < s.size) (hy2 : j2 < s.size) (hy3 : j3 < s.size) :
    CallIs 26 #[.string s, .int .i64 i] (.tuple #[.int .i64 ((s[i].toNat % 8 * 262144 + s[j1].toNat % 64 * 4096 + s[j2].toNat % 64 * 64 + s[j3].toNat % 64 : Nat) : Int), .int .i64 4]) := by
  intro w
  have H1 := tail_any s (i + 1) 128 143 (by omega)
  rw [t1, Int.natCast_add] at H1
  have p1 : i + 1 < s.size := (of_decide_eq_true t1).1
  have H2 := tail_any s (i + 2) 128 191 (by omega)
  rw [t2, Int.natCast_add] at H2
  have p2 : i + 2 < s.size := (of_decide_eq_true t2).1
  have H3 := tail_any s (i + 3) 128 191 (by omega)
  rw [t3, Int.natCast_add] at H3
  have p3 : i + 3 < s.size := (of_decide_eq_true t3).1
  have hh := h1.out
  have c128 : ¬ (s[i].toNat : Int) < 128 := by omega
  have g194 : (s[i].toNat : Int) ≥ 194 := by omega
  have l223 : ¬ (s[i].toNat : Int) ≤ 223 := by omega
  have g224 : (s[i].toNat : Int) ≥ 224 := by omega
  have l239 : ¬ (s[i].toNat : Int) ≤ 239 := by omega
  have g240 : (s[i].toNat : Int) ≥ 240 := by omega
  have l244 : (s[i].toNat : Int) ≤ 244 := by omega
  have q240 : ((s[i].toNat : Int) == 240) = false := by rw [beq_eq_false_iff_ne]; omega
  have q244 : ((s[i].toNat : Int) == 244) = true := by rw [beq_iff_eq]; omega
  clear hh
  go_enter Tryd.func26, Tryd.ntmps26
  go_wp2_with fail
  refine (H1.out _).mono ?_
  rintro e w1 ⟨rfl, hb1⟩
  go_wp2_with fail
  refine (H2.out _).mono ?_
  rintro e w2 ⟨rfl, hb2⟩
  go_wp2_with fail
  refine (H3.out _).mono ?_
  rintro e w3 ⟨rfl, hb3⟩
  go_wp2_with fail
  have pi1 : (j1 : Int) < s.size := by omega
  have wi1 : IntKind.i64.wrap ((i : Int) + 1) = (j1 : Int) := by rw [wrap_small _ (by omega) (by omega)]; omega
  replace e1 := hide e1
  have pi2 : (j2 : Int) < s.size := by omega
  have wi2 : IntKind.i64.wrap ((i : Int) + 2) = (j2 : Int) := by rw [wrap_small _ (by omega) (by omega)]; omega
  replace e2 := hide e2
  have pi3 : (j3 : Int) < s.size := by omega
  have wi3 : IntKind.i64.wrap ((i : Int) + 3) = (j3 : Int) := by rw [wrap_small _ (by omega) (by omega)]; omega
  replace e3 := hide e3
  go_quiet (fail)
  go_wp2_with fail
  go_ret2
  exact ⟨ret_two (by exact cl4 _ _ _ _ s[i].toNat_lt s[j1].toNat_lt s[j2].toNat_lt s[j3].toNat_lt) rfl, below_drewN (next (next (next (Below.refl w.heap.size w) hb1) hb2) hb3) _⟩
set_option maxHeartbeats 1000000 in
set_option maxRecDepth 100000 in
theorem rune_f10 (s : ByteArray) (i : Nat) (h : i < s.size) (hs : s.size ≤ 200000) (h1 : 241 ≤ s[i].toNat) (h2 : s[i].toNat ≤ 243) (t1 : tl s (i + 1) 128 191 = false) :
    CallIs 26 #[.string s, .int .i64 i] (.tuple #[.int .i64 65533, .int .i64 1]) := by
  intro w
  have H1 := tail_any s (i + 1) 128 191 (by omega)
  rw [t1, Int.natCast_add] at H1
  have c128 : ¬ (s[i].toNat : Int) < 128 := by omega
  have g194 : (s[i].toNat : Int) ≥ 194 := by omega
  have l223 : ¬ (s[i].toNat : Int) ≤ 223 := by omega
  have g224 : (s[i].toNat : Int) ≥ 224 := by omega
  have l239 : ¬ (s[i].toNat : Int) ≤ 239 := by omega
  have g240 : (s[i].toNat : Int) ≥ 240 := by omega
  have l244 : (s[i].toNat : Int) ≤ 244 := by omega
  have q240 : ((s[i].toNat : Int) == 240) = false := by rw [beq_eq_false_iff_ne]; omega
  have q244 : ((s[i].toNat : Int) == 244) = false := by rw [beq_eq_false_iff_ne]; omega
  go_enter Tryd.func26, Tryd.ntmps26
  go_wp2_with fail
  refine (H1.out _).mono ?_
  rintro e w1 ⟨rfl, hb1⟩
  go_wp2_with fail
  go_ret2
  exact ⟨ret_two (by rfl) rfl, next (Below.refl w.heap.size w) hb1⟩
set_option maxHeartbeats 1000000 in
set_option maxRecDepth 100000 in
theorem rune_f11 (s : ByteArray) (i : Nat) (h : i < s.size) (hs : s.size ≤ 200000) (h1 : 241 ≤ s[i].toNat) (h2 : s[i].toNat ≤ 243) (t1 : tl s (i + 1) 128 191 = true) (t2 : tl s (i + 2) 128 191 = false) :
    CallIs 26 #[.string s, .int .i64 i] (.tuple #[.int .i64 65533, .int .i64 1]) := by
  intro w
  have H1 := tail_any s (i + 1) 128 191 (by omega)
  rw [t1, Int.natCast_add] at H1
  have p1 : i + 1 < s.size := (of_decide_eq_true t1).1
  have H2 := tail_any s (i + 2) 128 191 (by omega)
  rw [t2, Int.natCast_add] at H2
  have c128 : ¬ (s[i].toNat : Int) < 128 := by omega
  have g194 : (s[i].toNat : Int) ≥ 194 := by omega
  have l223 : ¬ (s[i].toNat : Int) ≤ 223 := by omega
  have g224 : (s[i].toNat : Int) ≥ 224 := by omega
  have l239 : ¬ (s[i].toNat : Int) ≤ 239 := by omega
  have g240 : (s[i].toNat : Int) ≥ 240 := by omega
  have l244 : (s[i].toNat : Int) ≤ 244 := by omega
  have q240 : ((s[i].toNat : Int) == 240) = false := by rw [beq_eq_false_iff_ne]; omega
  have q244 : ((s[i].toNat : Int) == 244) = false := by rw [beq_eq_false_iff_ne]; omega
  go_enter Tryd.func26, Tryd.ntmps26
  go_wp2_with fail
  refine (H1.out _).mono ?_
  rintro e w1 ⟨rfl, hb1⟩
  go_wp2_with fail
  refine (H2.out _).mono ?_
  rintro e w2 ⟨rfl, hb2⟩
  go_wp2_with fail
  go_ret2
  exact ⟨ret_two (by rfl) rfl, next (next (Below.refl w.heap.size w) hb1) hb2⟩
set_option maxHeartbeats 1000000 in
set_option maxRecDepth 100000 in
theorem rune_f12 (s : ByteArray) (i : Nat) (h : i < s.size) (hs : s.size ≤ 200000) (h1 : 241 ≤ s[i].toNat) (h2 : s[i].toNat ≤ 243) (t1 : tl s (i + 1) 128 191 = true) (t2 : tl s (i + 2) 128 191 = true) (t3 : tl s (i + 3) 128 191 = false) :
    CallIs 26 #[.string s, .int .i64 i] (.tuple #[.int .i64 65533, .int .i64 1]) := by
  intro w
  have H1 := tail_any s (i + 1) 128 191 (by omega)
  rw [t1, Int.natCast_add] at H1
  have p1 : i + 1 < s.size := (of_decide_eq_true t1).1
  have H2 := tail_any s (i + 2) 128 191 (by omega)
  rw [t2, Int.natCast_add] at H2
  have p2 : i + 2 < s.size := (of_decide_eq_true t2).1
  have H3 := tail_any s (i + 3) 128 191 (by omega)
  rw [t3, Int.natCast_add] at H3
  have c128 : ¬ (s[i].toNat : Int) < 128 := by omega
  have g194 : (s[i].toNat : Int) ≥ 194 := by omega
  have l223 : ¬ (s[i].toNat : Int) ≤ 223 := by omega
  have g224 : (s[i].toNat : Int) ≥ 224 := by omega
  have l239 : ¬ (s[i].toNat : Int) ≤ 239 := by omega
  have g240 : (s[i].toNat : Int) ≥ 240 := by omega
  have l244 : (s[i].toNat : Int) ≤ 244 := by omega
  have q240 : ((s[i].toNat : Int) == 240) = false := by rw [beq_eq_false_iff_ne]; omega
  have q244 : ((s[i].toNat : Int) == 244) = false := by rw [beq_eq_false_iff_ne]; omega
  go_enter Tryd.func26, Tryd.ntmps26
  go_wp2_with fail
  refine (H1.out _).mono ?_
  rintro e w1 ⟨rfl, hb1⟩
  go_wp2_with fail
  refine (H2.out _).mono ?_
  rintro e w2 ⟨rfl, hb2⟩
  go_wp2_with fail
  refine (H3.out _).mono ?_
  rintro e w3 ⟨rfl, hb3⟩
  go_wp2_with fail
  go_ret2
  exact ⟨ret_two (by rfl) rfl, next (next (next (Below.refl w.heap.size w) hb1) hb2) hb3⟩
set_option maxHeartbeats 1000000 in
set_option maxRecDepth 100000 in
theorem rune_f13 (s : ByteArray) (i : Nat) (h : i < s.size) (hs : s.size ≤ 200000) (h1 : 241 ≤ s[i].toNat) (h2 : s[i].toNat ≤ 243) (t1 : tl s (i + 1) 128 191 = true) (t2 : tl s (i + 2) 128 191 = true) (t3 : tl s (i + 3) 128 191 = true) (j1 j2 j3 : Nat) (e1 : j1 = i + 1) (e2 : j2 = i + 2) (e3 : j3 = i + 3) (hy1 : j1 < s.size) (hy2 : j2 < s.size) (hy3 : j3 < s.size) :
    CallIs 26 #[.string s, .int .i64 i] (.tuple #[.int .i64 ((s[i].toNat % 8 * 262144 + s[j1].toNat % 64 * 4096 + s[j2].toNat % 64 * 64 + s[j3].toNat % 64 : Nat) : Int), .int .i64 4]) := by
  intro w
  have H1 := tail_any s (i + 1) 128 191 (by omega)
  rw [t1, Int.natCast_add] at H1
  have p1 : i + 1 < s.size := (of_decide_eq_true t1).1
  have H2 := tail_any s (i + 2) 128 191 (by omega)
  rw [t2, Int.natCast_add] at H2
  have p2 : i + 2 < s.size := (of_decide_eq_true t2).1
  have H3 := tail_any s (i + 3) 128 191 (by omega)
  rw [t3, Int.natCast_add] at H3
  have p3 : i + 3 < s.size := (of_decide_eq_true t3).1
  have c128 : ¬ (s[i].toNat : Int) < 128 := by omega
  have g194 : (s[i].toNat : Int) ≥ 194 := by omega
  have l223 : ¬ (s[i].toNat : Int) ≤ 223 := by omega
  have g224 : (s[i].toNat : Int) ≥ 224 := by omega
  have l239 : ¬ (s[i].toNat : Int) ≤ 239 := by omega
  have g240 : (s[i].toNat : Int) ≥ 240 := by omega
  have l244 : (s[i].toNat : Int) ≤ 244 := by omega
  have q240 : ((s[i].toNat : Int) == 240) = false := by rw [beq_eq_false_iff_ne]; omega
  have q244 : ((s[i].toNat : Int) == 244) = false := by rw [beq_eq_false_iff_ne]; omega
  go_enter Tryd.func26, Tryd.ntmps26
  go_wp2_with fail
  refine (H1.out _).mono ?_
  rintro e w1 ⟨rfl, hb1⟩
  go_wp2_with fail
  refine (H2.out _).mono ?_
  rintro e w2 ⟨rfl, hb2⟩
  go_wp2_with fail
  refine (H3.out _).mono ?_
  rintro e w3 ⟨rfl, hb3⟩
  go_wp2_with fail
  have pi1 : (j1 : Int) < s.size := by omega
  have wi1 : IntKind.i64.wrap ((i : Int) + 1) = (j1 : Int) := by rw [wrap_small _ (by omega) (by omega)]; omega
  replace e1 := hide e1
  have pi2 : (j2 : Int) < s.size := by omega
  have wi2 : IntKind.i64.wrap ((i : Int) + 2) = (j2 : Int) := by rw [wrap_small _ (by omega) (by omega)]; omega
  replace e2 := hide e2
  have pi3 : (j3 : Int) < s.size := by omega
  have wi3 : IntKind.i64.wrap ((i : Int) + 3) = (j3 : Int) := by rw [wrap_small _ (by omega) (by omega)]; omega
  replace e3 := hide e3
  go_quiet (fail)
  go_wp2_with fail
  go_ret2
  exact ⟨ret_two (by exact cl4 _ _ _ _ s[i].toNat_lt s[j1].toNat_lt s[j2].toNat_lt s[j3].toNat_lt) rfl, below_drewN (next (next (next (Below.refl w.heap.size w) hb1) hb2) hb3) _⟩
set_option maxHeartbeats 1000000 in
set_option maxRecDepth 100000 in
theorem rune_x0 (s : ByteArray) (i : Nat) (h : i < s.size) (hs : s.size ≤ 200000) (h1 : 128 ≤ s[i].toNat) (h2 : s[i].toNat < 194) :
    CallIs 26 #[.string s, .int .i64 i] (.tuple #[.int .i64 65533, .int .i64 1]) := by
  intro w
  have c128 : ¬ (s[i].toNat : Int) < 128 := by omega
  have g194 : ¬ (s[i].toNat : Int) ≥ 194 := by omega
  have g224 : ¬ (s[i].toNat : Int) ≥ 224 := by omega
  have g240 : ¬ (s[i].toNat : Int) ≥ 240 := by omega
  go_enter Tryd.func26, Tryd.ntmps26
  go_wp2_with fail
  go_ret2
  exact ⟨ret_two (by rfl) rfl, Below.refl w.heap.size w⟩
set_option maxHeartbeats 1000000 in
set_option maxRecDepth 100000 in
theorem rune_x1 (s : ByteArray) (i : Nat) (h : i < s.size) (hs : s.size ≤ 200000) (h1 : 245 ≤ s[i].toNat) (h2 : s[i].toNat ≤ 255) :
    CallIs 26 #[.string s, .int .i64 i] (.tuple #[.int .i64 65533, .int .i64 1]) := by
  intro w
  have c128 : ¬ (s[i].toNat : Int) < 128 := by omega
  have g194 : (s[i].toNat : Int) ≥ 194 := by omega
  have l223 : ¬ (s[i].toNat : Int) ≤ 223 := by omega
  have g224 : (s[i].toNat : Int) ≥ 224 := by omega
  have l239 : ¬ (s[i].toNat : Int) ≤ 239 := by omega
  have g240 : (s[i].toNat : Int) ≥ 240 := by omega
  have l244 : ¬ (s[i].toNat : Int) ≤ 244 := by omega
  go_enter Tryd.func26, Tryd.ntmps26
  go_wp2_with fail
  go_ret2
  exact ⟨ret_two (by rfl) rfl, Below.refl w.heap.size w⟩
end Go.Proofs.YtllbgjeibcaajaaDoor
