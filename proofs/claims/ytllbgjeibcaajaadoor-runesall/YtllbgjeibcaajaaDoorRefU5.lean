/- What the reference's Upper and Lower answer, for every text: proved of the Go text. -/
import Derived.Test.YtllbgjeibcaajaaDoorCase5
namespace Go.Proofs.YtllbgjeibcaajaaDoor
open Go.RowKit Go.Sort
set_option linter.unusedVariables false

set_option maxHeartbeats 1000000 in
theorem rupper_any (s : ByteArray) (hs : s.size ≤ 200000) : CallIs 37 #[.string s] (.string (casB 97 65 s)) := by
  intro w
  have hcv : ∀ w : World, (convert 9 47 (.string s)).run Tryd.prog w = _ := fun w => Lib.run_convert_string_bytes w 9 47 5 s Tryd.underlying9 Tryd.underlying47 Tryd.underlying5
  have hR0 := hide (row_new w s)
  have hB0 := hide (bytes_below w s)
  generalize hgc : grownCap w s.size 0 5 = gc at *
  go_enter Tryd.func37, Tryd.ntmps37
  go_wp2
  generalize Lib.bytesWorld w 5 s = w0 at *
  clear hcv hgc
  go_loopw [4] (fun i wr => ∃ k : Nat, k ≤ s.size ∧ i = .int .i64 k ∧ Hid (Row wr w.heap.size s.size (fun j => if j < k then (cas 97 65 (byt s j) : Nat) else (byt s j : Nat))) ∧ Hid (Below w.heap.size w wr)) (fun i _ => s.size - (intOf i).toNat)
  case atStart => exact ⟨0, Nat.zero_le _, rfl, hide (hR0.out.congr fun j _ => by simp), hB0⟩
  case round =>
    clear hR0 hB0
    obtain ⟨k, hk, rfl, hR, hB⟩ := hrel
    by_cases hlt : k < s.size
    · have c1 := hR.out.1 k hlt
      have f1 := hR.out.2 k hlt
      simp only [Nat.lt_irrefl, if_false] at c1
      have hx := byt_le s k
      have hk1 : (k : Int) + 1 ≤ 9223372036854775807 := by omega
      have hstep : Hid (∀ W, Row W w.heap.size s.size (fun j => if j = k then ((cas 97 65 (byt s k) : Nat) : Int) else if j < k then (cas 97 65 (byt s j) : Nat) else (byt s j : Nat)) → Row W w.heap.size s.size (fun j => if j < k + 1 then (cas 97 65 (byt s j) : Nat) else (byt s j : Nat))) := by
        refine hide fun W h => h.congr fun j _ => ?_
        by_cases e : j = k
        · subst e; simp
        · simp only [if_neg e]
          by_cases e2 : j < k
          · rw [if_pos e2, if_pos (by omega)]
          · rw [if_neg e2, if_neg (by omega)]
      by_cases h1 : (byt s k : Int) ≥ 97
      · by_cases h2 : (byt s k : Int) ≤ 122
        · have hc : Hid ((cas 97 65 (byt s k) : Int) = (byt s k : Int) - 32) := hide (by unfold cas; rw [if_pos (by omega)]; omega)
          have hset := hide (hR.out.set k hlt ((byt s k : Int) - 32))
          have hBs := hide (hB.out.setCell (p := ⟨w.heap.size, k, none⟩) (Nat.le_refl _) (.int .u8 ((byt s k : Int) - 32)))
          have a1 : 0 ≤ (byt s k : Int) - 32 := by omega
          have a2 : (byt s k : Int) - 32 ≤ 255 := by omega
          generalize byt s k = x at *
          go_wp2
          go_roundw
          case rel => exact ⟨k + 1, by omega, by go_num, hide (hstep.out _ (by rw [hc.out]; exact hset.out)), hBs⟩
          case measure => simp [intOf]; omega
        · have hc : Hid (cas 97 65 (byt s k) = byt s k) := hide (by unfold cas; rw [if_neg (by omega)])
          have hR' := hide (hstep.out _ (hR.out.congr fun j _ => by by_cases e : j = k; · subst e; simp [hc.out]
                                                                    · simp [e]))
          generalize byt s k = x at *
          go_wp2
          go_roundw
          case rel => exact ⟨k + 1, by omega, by go_num, hR', hB⟩
          case measure => simp [intOf]; omega
      · have hc : Hid (cas 97 65 (byt s k) = byt s k) := hide (by unfold cas; rw [if_neg (by omega)])
        have hR' := hide (hstep.out _ (hR.out.congr fun j _ => by by_cases e : j = k; · subst e; simp [hc.out]
                                                                  · simp [e]))
        generalize byt s k = x at *
        go_wp2
        go_roundw
        case rel => exact ⟨k + 1, by omega, by go_num, hR', hB⟩
        case measure => simp [intOf]; omega
    · obtain rfl : k = s.size := by omega
      have hcb := conv_cells (c := gc) (L := s.data.toList.map fun c => UInt8.ofNat (cas 97 65 c.toNat)) hR.out (by rw [List.length_map, ← Lib.size_eq]) (fun j hj => by rw [if_pos hj]; exact cas_at 97 65 s (by decide) (by decide) j hj)
      have hcb' : (convert 47 9 (.slice (some ⟨w.heap.size, 0, none⟩) s.size gc)).run Tryd.prog wr = .ok (.string (casB 97 65 s)) wr := hcb
      clear hcb
      go_wp2
      go_ret
      exact ⟨rfl, hB.out⟩
set_option maxHeartbeats 1000000 in
theorem rlower_any (s : ByteArray) (hs : s.size ≤ 200000) : CallIs 38 #[.string s] (.string (casB 65 97 s)) := by
  intro w
  have hcv : ∀ w : World, (convert 9 47 (.string s)).run Tryd.prog w = _ := fun w => Lib.run_convert_string_bytes w 9 47 5 s Tryd.underlying9 Tryd.underlying47 Tryd.underlying5
  have hR0 := hide (row_new w s)
  have hB0 := hide (bytes_below w s)
  generalize hgc : grownCap w s.size 0 5 = gc at *
  go_enter Tryd.func38, Tryd.ntmps38
  go_wp2
  generalize Lib.bytesWorld w 5 s = w0 at *
  clear hcv hgc
  go_loopw [4] (fun i wr => ∃ k : Nat, k ≤ s.size ∧ i = .int .i64 k ∧ Hid (Row wr w.heap.size s.size (fun j => if j < k then (cas 65 97 (byt s j) : Nat) else (byt s j : Nat))) ∧ Hid (Below w.heap.size w wr)) (fun i _ => s.size - (intOf i).toNat)
  case atStart => exact ⟨0, Nat.zero_le _, rfl, hide (hR0.out.congr fun j _ => by simp), hB0⟩
  case round =>
    clear hR0 hB0
    obtain ⟨k, hk, rfl, hR, hB⟩ := hrel
    by_cases hlt : k < s.size
    · have c1 := hR.out.1 k hlt
      have f1 := hR.out.2 k hlt
      simp only [Nat.lt_irrefl, if_false] at c1
      have hx := byt_le s k
      have hk1 : (k : Int) + 1 ≤ 9223372036854775807 := by omega
      have hstep : Hid (∀ W, Row W w.heap.size s.size (fun j => if j = k then ((cas 65 97 (byt s k) : Nat) : Int) else if j < k then (cas 65 97 (byt s j) : Nat) else (byt s j : Nat)) → Row W w.heap.size s.size (fun j => if j < k + 1 then (cas 65 97 (byt s j) : Nat) else (byt s j : Nat))) := by
        refine hide fun W h => h.congr fun j _ => ?_
        by_cases e : j = k
        · subst e; simp
        · simp only [if_neg e]
          by_cases e2 : j < k
          · rw [if_pos e2, if_pos (by omega)]
          · rw [if_neg e2, if_neg (by omega)]
      by_cases h1 : (byt s k : Int) ≥ 65
      · by_cases h2 : (byt s k : Int) ≤ 90
        · have hc : Hid ((cas 65 97 (byt s k) : Int) = (byt s k : Int) + 32) := hide (by unfold cas; rw [if_pos (by omega)]; omega)
          have hset := hide (hR.out.set k hlt ((byt s k : Int) + 32))
          have hBs := hide (hB.out.setCell (p := ⟨w.heap.size, k, none⟩) (Nat.le_refl _) (.int .u8 ((byt s k : Int) + 32)))
          have a1 : 0 ≤ (byt s k : Int) + 32 := by omega
          have a2 : (byt s k : Int) + 32 ≤ 255 := by omega
          generalize byt s k = x at *
          go_wp2
          go_roundw
          case rel => exact ⟨k + 1, by omega, by go_num, hide (hstep.out _ (by rw [hc.out]; exact hset.out)), hBs⟩
          case measure => simp [intOf]; omega
        · have hc : Hid (cas 65 97 (byt s k) = byt s k) := hide (by unfold cas; rw [if_neg (by omega)])
          have hR' := hide (hstep.out _ (hR.out.congr fun j _ => by by_cases e : j = k; · subst e; simp [hc.out]
                                                                    · simp [e]))
          generalize byt s k = x at *
          go_wp2
          go_roundw
          case rel => exact ⟨k + 1, by omega, by go_num, hR', hB⟩
          case measure => simp [intOf]; omega
      · have hc : Hid (cas 65 97 (byt s k) = byt s k) := hide (by unfold cas; rw [if_neg (by omega)])
        have hR' := hide (hstep.out _ (hR.out.congr fun j _ => by by_cases e : j = k; · subst e; simp [hc.out]
                                                                  · simp [e]))
        generalize byt s k = x at *
        go_wp2
        go_roundw
        case rel => exact ⟨k + 1, by omega, by go_num, hR', hB⟩
        case measure => simp [intOf]; omega
    · obtain rfl : k = s.size := by omega
      have hcb := conv_cells (c := gc) (L := s.data.toList.map fun c => UInt8.ofNat (cas 65 97 c.toNat)) hR.out (by rw [List.length_map, ← Lib.size_eq]) (fun j hj => by rw [if_pos hj]; exact cas_at 65 97 s (by decide) (by decide) j hj)
      have hcb' : (convert 47 9 (.slice (some ⟨w.heap.size, 0, none⟩) s.size gc)).run Tryd.prog wr = .ok (.string (casB 65 97 s)) wr := hcb
      clear hcb
      go_wp2
      go_ret
      exact ⟨rfl, hB.out⟩
end Go.Proofs.YtllbgjeibcaajaaDoor
