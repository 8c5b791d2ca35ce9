/- The law's areas: are two lists of areas the same? -/
import Derived.Test.YtgopolelpckjcaaApp9
namespace Go.Proofs.Ytgopolelpckjcaa
open Go.RowKit Go.Sort
set_option linter.unusedVariables false

/-- A list of areas in memory. -/
structure AreasAt (w : World) (a : Option Addr) (len : Nat) (L : List Ar) : Prop where
  lq : len = L.length
  small : len ≤ 4611686018427387904
  at' : len = 0 ∨ ∃ b o, a = some ⟨b, o, none⟩ ∧ ∀ i (hi : i < L.length), w.rangeAt b (o + i * 4) (arC L[i])
theorem AreasAt.keep {w w' : World} {a : Option Addr} {len : Nat} {L : List Ar} (h : AreasAt w a len L) (hb : Below w.heap.size w w') : AreasAt w' a len L := by
  refine ⟨h.lq, h.small, ?_⟩
  rcases h.at' with h | ⟨b, o, ha, hr⟩
  · exact .inl h
  · refine .inr ⟨b, o, ha, fun i hi => range_of_block (hr i hi) (hb.block b ?_)⟩
    exact World.block_lt_of_cell? w ⟨b, _, none⟩ (hr i hi 0 _ rfl)
theorem flA_get (L : List Ar) (i : Nat) (hi : i < L.length) (j : Nat) (hj : j < 4) : (flA L)[i * 4 + j]? = (arC L[i])[j]? := by
  induction L generalizing i with
  | nil => exact absurd hi (Nat.not_lt_zero i)
  | cons x L ih =>
    have hx : flA (x :: L) = arC x ++ flA L := rfl
    rw [hx]
    cases i with
    | zero => rw [Nat.zero_mul, Nat.zero_add, List.getElem?_append_left (by simpa using hj)]; rfl
    | succ i =>
      rw [List.getElem?_append_right (by simp; omega), show (i + 1) * 4 + j - (arC x).length = i * 4 + j by simp; omega]
      rw [ih i (by simpa using hi)]
      rfl
theorem RowA.areas {w : World} {B : Nat} {a : Option Addr} {len cap : Nat} {L : List Ar} (h : RowA w B (.slice a len cap) L) (hs : L.length ≤ 4611686018427387904) : AreasAt w a len L ∧ len ≤ cap := by
  rcases h.2 with ⟨hv, h0⟩ | ⟨g, cap', cur, hv, _, hr, hc, _, hz, ht⟩
  · simp only [Value.slice.injEq] at hv
    obtain ⟨rfl, rfl, rfl⟩ := hv
    exact ⟨⟨h0.symm, by omega, .inl rfl⟩, Nat.le_refl _⟩
  · simp only [Value.slice.injEq] at hv
    obtain ⟨rfl, rfl, rfl⟩ := hv
    refine ⟨⟨rfl, hs, .inr ⟨g, 0, rfl, fun i hi j v hv => ?_⟩⟩, hc⟩
    have hj : j < 4 := by have := (List.getElem?_eq_some_iff.1 hv).1; simpa using this
    rw [cell_of_row w g _ cur _ _ hr, ← Array.getElem?_toList]
    have h1 := flA_get L i hi j hj
    rw [hv, ← ht, List.getElem?_take] at h1
    split at h1
    · rw [Nat.zero_add]; exact h1
    · cases h1
theorem AreasAt.part {w : World} {a : Option Addr} {len : Nat} {L M N : List Ar} (h : AreasAt w a len L) (hL : L = M ++ N) (n : Nat) (hn : n ≤ N.length) (hp : 0 < n) : ∃ b o, a = some ⟨b, o, none⟩ ∧ AreasAt w (some ⟨b, o + M.length * 4, none⟩) n (N.take n) := by
  have hlq := h.lq
  have hl : L.length = M.length + N.length := by rw [hL, List.length_append]
  rcases h.at' with h0 | ⟨b, o, ha, hr⟩
  · omega
  · refine ⟨b, o, ha, ⟨by simp; omega, by have := h.small; omega, .inr ⟨b, _, rfl, fun i hi => ?_⟩⟩⟩
    have hi' : i < n := by simp at hi; omega
    have := hr (M.length + i) (by omega)
    rw [show o + (M.length + i) * 4 = o + M.length * 4 + i * 4 by omega] at this
    have e : L[M.length + i]'(by omega) = (N.take n)[i]'hi := by
      simp only [hL]
      rw [List.getElem_append_right (by omega)]
      simp
    rw [← e]
    exact this
set_option maxHeartbeats 2000000 in
set_option maxRecDepth 100000 in
theorem areas_any (L M : List Ar) (a1 a2 : Option Addr) (len1 len2 cap1 cap2 : Nat) (w : World) (h1 : AreasAt w a1 len1 L) (h2 : AreasAt w a2 len2 M) :
    Calls Try.prog 19 #[.slice a1 len1 cap1, .slice a2 len2 cap2] w fun e w' => e = .returned (.bool (decide (L = M))) ∧ Below w.heap.size w w' := by
  have l1 := hide h1.lq
  have l2 := hide h2.lq
  have s1 := hide h1.small
  replace h1 := hide h1
  replace h2 := hide h2
  by_cases hl : len1 = len2
  · have p0 : ((len1 : Int) == (len2 : Int)) = true := by simp [hl]
    have p0' : ((len1 : Int) != (len2 : Int)) = false := by rw [bne, p0]; rfl
    replace hl := hide hl
    go_enter Try.func19, Try.ntmps19
    go_wp2_with fail
    go_loopw [5] (fun i wr => ∃ (k : Nat), k ≤ len1 ∧ i = .int .i64 k ∧ Hid (Below w.heap.size w wr) ∧ Hid (L.take k = M.take k)) (fun i _ => len1 - (intOf i).toNat)
    case atStart => exact ⟨0, Nat.zero_le _, rfl, Below.refl _ _, hide (by simp)⟩
    case round =>
      obtain ⟨k, hkl, rfl, HB, HL⟩ := hrel
      by_cases hlt : k < len1
      · have q0 : (k : Int) < (len1 : Int) := by omega
        have q1 : (k : Int) < (len2 : Int) := by have := hl.out; omega
        have q2 : k < len2 := by omega
        have hk1 : k < L.length := by rw [← l1.out]; exact hlt
        have hk2 : k < M.length := by rw [← l2.out]; exact q2
        obtain ⟨b1, o1, rfl, r1⟩ : ∃ b o, a1 = some ⟨b, o, none⟩ ∧ ∀ i (hi : i < L.length), wr.rangeAt b (o + i * 4) (arC L[i]) := by rcases (h1.out.keep HB.out).at' with h | h; omega; exact h
        obtain ⟨b2, o2, rfl, r2⟩ : ∃ b o, a2 = some ⟨b, o, none⟩ ∧ ∀ i (hi : i < M.length), wr.rangeAt b (o + i * 4) (arC M[i]) := by rcases (h2.out.keep HB.out).at' with h | h; omega; exact h
        have r1 := r1 k hk1
        have r2 := r2 k hk2
        have ht1 : L.take (k + 1) = L.take k ++ [L[k]] := List.take_succ_eq_append_getElem hk1
        have ht2 : M.take (k + 1) = M.take k ++ [M[k]] := List.take_succ_eq_append_getElem hk2
        have hne : L[k] ≠ M[k] → L ≠ M := fun h e => h (by subst e; rfl)
        generalize L[k] = x at *
        generalize M[k] = y at *
        obtain ⟨x0, x1, x2, x3⟩ := x
        obtain ⟨y0, y1, y2, y3⟩ := y
        have u0 := cell_regrown (r1 0 _ rfl)
        have u1 := cell_regrown (r1 1 _ rfl)
        have u2 := cell_regrown (r1 2 _ rfl)
        have u3 := cell_regrown (r1 3 _ rfl)
        have v0 := cell_regrown (r2 0 _ rfl)
        have v1 := cell_regrown (r2 1 _ rfl)
        have v2 := cell_regrown (r2 2 _ rfl)
        have v3 := cell_regrown (r2 3 _ rfl)
        simp only [Nat.add_zero] at u0 v0
        have wk := IntWalk.wrap64_in ((k : Int) + 1) ⟨by omega, by have := s1.out; omega⟩
        clear r1 r2
        replace hne := hide hne
        replace ht1 := hide ht1
        replace ht2 := hide ht2
        by_cases z0 : x0 = y0
        case neg =>
          have m0 : (x0 == y0) = false := by simp [z0]
          have HN : Hid ((x0, x1, x2, x3) ≠ ((y0, y1, y2, y3) : Ar)) := hide (fun e => by simp only [Prod.mk.injEq] at e; exact z0 e.1)
          replace z0 := hide z0
          go_wp2_with fail
          refine wp_region_quiet_below (by kernel_rfl) (by kernel_rfl) ?_
          repeat (go_big_quiet_step (fail))
          refine wpQuiet_nil ?_
          intro _ hw'
          obtain ⟨⟨dq, osq⟩, hw''⟩ := hw'
          subst hw''
          have hbz := hide (next HB.out (below_regrown wr dq osq))
          go_wp2_with fail
          go_ret
          exact ⟨by rw [decide_eq_false (hne.out HN.out)]; rfl, hbz.out⟩
        by_cases z1 : x1 = y1
        case neg =>
          have m0 : (x0 == y0) = true := by simp [z0]
          have m1 : (x1 == y1) = false := by simp [z1]
          have HN : Hid ((x0, x1, x2, x3) ≠ ((y0, y1, y2, y3) : Ar)) := hide (fun e => by simp only [Prod.mk.injEq] at e; exact z1 e.2.1)
          replace z0 := hide z0
          replace z1 := hide z1
          go_wp2_with fail
          refine wp_region_quiet_below (by kernel_rfl) (by kernel_rfl) ?_
          repeat (go_big_quiet_step (fail))
          refine wpQuiet_nil ?_
          intro _ hw'
          obtain ⟨⟨dq, osq⟩, hw''⟩ := hw'
          subst hw''
          have hbz := hide (next HB.out (below_regrown wr dq osq))
          go_wp2_with fail
          go_ret
          exact ⟨by rw [decide_eq_false (hne.out HN.out)]; rfl, hbz.out⟩
        by_cases z2 : x2 = y2
        case neg =>
          have m0 : (x0 == y0) = true := by simp [z0]
          have m1 : (x1 == y1) = true := by simp [z1]
          have m2 : (x2 == y2) = false := by simp [z2]
          have HN : Hid ((x0, x1, x2, x3) ≠ ((y0, y1, y2, y3) : Ar)) := hide (fun e => by simp only [Prod.mk.injEq] at e; exact z2 e.2.2.1)
          replace z0 := hide z0
          replace z1 := hide z1
          replace z2 := hide z2
          go_wp2_with fail
          refine wp_region_quiet_below (by kernel_rfl) (by kernel_rfl) ?_
          repeat (go_big_quiet_step (fail))
          refine wpQuiet_nil ?_
          intro _ hw'
          obtain ⟨⟨dq, osq⟩, hw''⟩ := hw'
          subst hw''
          have hbz := hide (next HB.out (below_regrown wr dq osq))
          go_wp2_with fail
          go_ret
          exact ⟨by rw [decide_eq_false (hne.out HN.out)]; rfl, hbz.out⟩
        by_cases z3 : x3 = y3
        case neg =>
          have m0 : (x0 == y0) = true := by simp [z0]
          have m1 : (x1 == y1) = true := by simp [z1]
          have m2 : (x2 == y2) = true := by simp [z2]
          have m3 : (x3 == y3) = false := by simp [z3]
          have HN : Hid ((x0, x1, x2, x3) ≠ ((y0, y1, y2, y3) : Ar)) := hide (fun e => by simp only [Prod.mk.injEq] at e; exact z3 e.2.2.2)
          replace z0 := hide z0
          replace z1 := hide z1
          replace z2 := hide z2
          replace z3 := hide z3
          go_wp2_with fail
          refine wp_region_quiet_below (by kernel_rfl) (by kernel_rfl) ?_
          repeat (go_big_quiet_step (fail))
          refine wpQuiet_nil ?_
          intro _ hw'
          obtain ⟨⟨dq, osq⟩, hw''⟩ := hw'
          subst hw''
          have hbz := hide (next HB.out (below_regrown wr dq osq))
          go_wp2_with fail
          go_ret
          exact ⟨by rw [decide_eq_false (hne.out HN.out)]; rfl, hbz.out⟩
        subst z0 z1 z2 z3
        go_wp2_with fail
        refine wp_region_quiet_below (by kernel_rfl) (by kernel_rfl) ?_
        repeat (go_big_quiet_step (fail))
        refine wpQuiet_nil ?_
        intro _ hw'
        obtain ⟨⟨dq, osq⟩, hw''⟩ := hw'
        subst hw''
        have hbz := hide (next HB.out (below_regrown wr dq osq))
        go_wp2_with fail
        refine ⟨⟨k + 1, hlt, by rw [wk]; rfl, hbz, hide (by rw [ht1.out, ht2.out, HL.out])⟩, ?_⟩
        rw [wk]
        show len1 - ((k : Int) + 1).toNat < len1 - (k : Int).toNat
        omega
      · obtain rfl : k = len1 := by omega
        go_wp2_with fail
        go_ret
        have hh := HL.out
        rw [l1.out, List.take_length, ← l1.out, hl.out, l2.out, List.take_length] at hh
        exact ⟨by rw [decide_eq_true hh]; rfl, HB.out⟩
  · have p0 : ((len1 : Int) == (len2 : Int)) = false := by simp; omega
    have p0' : ((len1 : Int) != (len2 : Int)) = true := by rw [bne, p0]; rfl
    replace hl := hide hl
    go_enter Try.func19, Try.ntmps19
    go_wp2_with fail
    go_ret
    exact ⟨by rw [decide_eq_false (fun e => hl.out (by rw [l1.out, l2.out, e]))]; rfl, Below.refl _ _⟩
end Go.Proofs.Ytgopolelpckjcaa
