/- ListAll: the law's walk. -/
import Derived.Test.YtmoekapoajkaiaaBegun13
import Derived.Test.YtmoekapoajkaiaaOpens13
namespace Go.Proofs.Ytmoekapoajkaiaa
open Go.RowKit Go.Sort Go.Maps
set_option linter.unusedVariables false

theorem IntsIn.cellAt {w w' : World} {a : Option Addr} {len i : Nat} (h : IntsIn w a len) (hi : i < len) (hb : Below w.heap.size w w') : ∃ b off, a = some ⟨b, off, none⟩ ∧ ∃ k : Int, ∀ w', Below w.heap.size w w' → w'.cell? ⟨b, off + i, none⟩ = some (.int .i64 k) := by
  rcases h with h | ⟨b, off, ha, _, hk⟩
  · omega
  · obtain ⟨k, hk⟩ := hk i hi
    exact ⟨b, off, ha, k, fun w' hb => (hb.cell (World.block_lt_of_cell? w _ hk)).trans hk⟩
theorem StrsIn.cellAt {w w' : World} {a : Option Addr} {len i : Nat} (h : StrsIn w a len) (hi : i < len) (hb : Below w.heap.size w w') : ∃ b off, a = some ⟨b, off, none⟩ ∧ ∃ s : ByteArray, s.size ≤ maxLen ∧ ∀ w', Below w.heap.size w w' → w'.cell? ⟨b, off + i, none⟩ = some (.string s) := by
  rcases h with h | ⟨b, off, ha, _, hk⟩
  · omega
  · obtain ⟨k, hk, hs⟩ := hk i hi
    exact ⟨b, off, ha, k, hs, fun w' hb => (hb.cell (World.block_lt_of_cell? w _ hk)).trans hk⟩
theorem IntsIn.le {w : World} {a : Option Addr} {len : Nat} (h : IntsIn w a len) : len ≤ maxLen := by
  rcases h with h | ⟨_, _, _, h, _⟩
  · omega
  · exact h
theorem StrsIn.le {w : World} {a : Option Addr} {len : Nat} (h : StrsIn w a len) : len ≤ maxLen := by
  rcases h with h | ⟨_, _, _, h, _⟩
  · omega
  · exact h
theorem measA {l m k : Nat} (h : k < l ∨ k < m) : max l m - (intOf (.int .i64 ((k : Int) + 1))).toNat < max l m - (intOf (.int .i64 (k : Int))).toNat := by
  show max l m - ((k : Int) + 1).toNat < max l m - (k : Int).toNat
  omega
set_option maxHeartbeats 4000000 in
set_option maxRecDepth 100000 in
theorem listAll_walk {W : World} (a : Option Addr) (len cap : Nat) (hS : StrsIn W a len) (a' : Option Addr) (len' cap' : Nat) (hI : IntsIn W a' len') : Calls Try.prog 3 #[.slice a len cap, .slice a' len' cap'] W fun e w' => e = .returned (.bool true) ∧ Below W.heap.size W w' := by
  have HG := hide (begun13 W)
  have hle := hide hS.le
  have hle' := hide hI.le
  replace hS := hide hS
  replace hI := hide hI
  go_enter Try.func3, Try.ntmps3
  go_wp2_with (go_at_call 6; refine HG.out.mono ?_; rintro e w0 ⟨rfl, hb⟩; have b0 := hide hb; clear hb)
  go_loopw [5] (fun i wr => ∃ k : Nat, k ≤ max len len' ∧ i = .int .i64 k ∧ Hid (Below W.heap.size W wr)) (fun i _ => max len len' - (intOf i).toNat)
  case atStart => exact ⟨0, Nat.zero_le _, rfl, b0⟩
  case round =>
    obtain ⟨k, hk, rfl, B⟩ := hrel
    replace hk := hide hk
    by_cases h1 : k < len
    · have p1 : (k : Int) < (len : Int) := by omega
      have hms := hide (measA (l := len) (m := len') (k := k) (.inl h1))
      have wk := IntWalk.wrap64_in ((k : Int) + 1) ⟨by omega, by have := hle.out; unfold maxLen at this; omega⟩
      have hk' : Hid (k + 1 ≤ max len len') := hide (by omega)
      obtain ⟨b, off, rfl, s, hs, HC⟩ := hS.out.cellAt h1 B.out
      obtain ⟨c, bo, H1, H2⟩ := pair_find s hs
      have x0 := HC _ B.out
      replace H1 := hide H1
      replace H2 := hide H2
      replace HC := hide HC
      clear hs
      by_cases h2 : k < len'
      · have p2 : (k : Int) < (len' : Int) := by omega
        obtain ⟨b', off', rfl, f, HD⟩ := hI.out.cellAt h2 B.out
        obtain ⟨n, cl, mn, mx, er, H3, H4⟩ := pair_info f
        replace H3 := hide H3
        replace H4 := hide H4
        replace HD := hide HD
        go_wp2_with (first
          | (go_at_call 7; refine (H1.out _).mono ?_; rintro e w1 ⟨rfl, hb⟩; have B1 := hide (next B.out hb); have x1 := HC.out _ B1.out; clear hb x0 H1)
          | (go_at_call 8; refine (H2.out _).mono ?_; rintro e w2 ⟨rfl, hb⟩; have B2 := hide (next B1.out hb); have y2 := HD.out _ B2.out; clear hb x1 H2 B1)
          | (go_at_call 9; refine (H3.out _).mono ?_; rintro e w3 ⟨rfl, hb⟩; have B3 := hide (step (next B2.out hb) (.cells #[.string n, .int .i64 cl, .int .i64 mn, .int .i64 mx] 28)); have X3 := hide (Blk.new w3 #[.string n, .int .i64 cl, .int .i64 mn, .int .i64 mx] 28); have y3 := HD.out _ B3.out; clear hb H3 y2 B2)
          | (refine wpList_store_new rfl 28 _ _ rfl _ #[.string n, .int .i64 cl, .int .i64 mn, .int .i64 mx] _ rfl rfl (by rfl) (fn_info n cl mn mx) rfl (by rfl) ?_)
          | (go_at_call 10; refine (H4.out _).mono ?_; rintro e w4 ⟨rfl, hb⟩; have B4 := hide (step (next B3.out hb) (.cells #[.string n, .int .i64 cl, .int .i64 mn, .int .i64 mx] 28)); have X4 := hide ((X3.out.keep hb).alloc (.cells #[.string n, .int .i64 cl, .int .i64 mn, .int .i64 mx] 28)); have X5 := hide (Blk.new w4 #[.string n, .int .i64 cl, .int .i64 mn, .int .i64 mx] 28); clear hb X3 H4 y3)
          | (refine wpList_load_blk rfl 28 _ rfl _ rfl _ (by with_reducible exact X4.out) _ Try.underlying28 rfl (fn_info n cl mn mx) ?_)
          | (refine wpList_load_blk rfl 28 _ rfl _ rfl _ (by with_reducible exact X5.out) _ Try.underlying28 rfl (fn_info n cl mn mx) ?_))
        exact ⟨⟨k + 1, hk'.out, by first | rfl | (rw [wk]; rfl), B4⟩, by first | exact hms.out | (rw [wk]; exact hms.out)⟩
      · have p2 : ¬ (k : Int) < (len' : Int) := by omega
        go_wp2_with (first
          | (go_at_call 7; refine (H1.out _).mono ?_; rintro e w1 ⟨rfl, hb⟩; have B1 := hide (next B.out hb); have x1 := HC.out _ B1.out; clear hb x0 H1)
          | (go_at_call 8; refine (H2.out _).mono ?_; rintro e w2 ⟨rfl, hb⟩; have B2 := hide (next B1.out hb); clear hb x1 H2 B1))
        exact ⟨⟨k + 1, hk'.out, by first | rfl | (rw [wk]; rfl), B2⟩, by first | exact hms.out | (rw [wk]; exact hms.out)⟩
    · have p1 : ¬ (k : Int) < (len : Int) := by omega
      by_cases h2 : k < len'
      · have p2 : (k : Int) < (len' : Int) := by omega
        have hms := hide (measA (l := len) (m := len') (k := k) (.inr h2))
        have wk := IntWalk.wrap64_in ((k : Int) + 1) ⟨by omega, by have := hle'.out; unfold maxLen at this; omega⟩
        have hk' : Hid (k + 1 ≤ max len len') := hide (by omega)
        obtain ⟨b', off', rfl, f, HD⟩ := hI.out.cellAt h2 B.out
        obtain ⟨n, cl, mn, mx, er, H3, H4⟩ := pair_info f
        have y2 := HD _ B.out
        replace H3 := hide H3
        replace H4 := hide H4
        replace HD := hide HD
        go_wp2_with (first
          | (go_at_call 9; refine (H3.out _).mono ?_; rintro e w3 ⟨rfl, hb⟩; have B3 := hide (step (next B.out hb) (.cells #[.string n, .int .i64 cl, .int .i64 mn, .int .i64 mx] 28)); have X3 := hide (Blk.new w3 #[.string n, .int .i64 cl, .int .i64 mn, .int .i64 mx] 28); have y3 := HD.out _ B3.out; clear hb H3 y2)
          | (refine wpList_store_new rfl 28 _ _ rfl _ #[.string n, .int .i64 cl, .int .i64 mn, .int .i64 mx] _ rfl rfl (by rfl) (fn_info n cl mn mx) rfl (by rfl) ?_)
          | (go_at_call 10; refine (H4.out _).mono ?_; rintro e w4 ⟨rfl, hb⟩; have B4 := hide (step (next B3.out hb) (.cells #[.string n, .int .i64 cl, .int .i64 mn, .int .i64 mx] 28)); have X4 := hide ((X3.out.keep hb).alloc (.cells #[.string n, .int .i64 cl, .int .i64 mn, .int .i64 mx] 28)); have X5 := hide (Blk.new w4 #[.string n, .int .i64 cl, .int .i64 mn, .int .i64 mx] 28); clear hb X3 H4 y3)
          | (refine wpList_load_blk rfl 28 _ rfl _ rfl _ (by with_reducible exact X4.out) _ Try.underlying28 rfl (fn_info n cl mn mx) ?_)
          | (refine wpList_load_blk rfl 28 _ rfl _ rfl _ (by with_reducible exact X5.out) _ Try.underlying28 rfl (fn_info n cl mn mx) ?_))
        exact ⟨⟨k + 1, hk'.out, by first | rfl | (rw [wk]; rfl), B4⟩, by first | exact hms.out | (rw [wk]; exact hms.out)⟩
      · have p2 : ¬ (k : Int) < (len' : Int) := by omega
        go_wp2_with fail
        go_ret
        exact ⟨rfl, B.out⟩
end Go.Proofs.Ytmoekapoajkaiaa
