/- What runes.Upper and runes.Lower answer, for every text: proved of the Go text. -/
import Derived.Test.YtgnmkhjilecdhaaGreatDoorTurn5
import Derived.Lib.ConvBytes
namespace Go.Proofs.YtgnmkhjilecdhaaGreatDoor.T5
open Go.RowKit Go.Sort
set_option linter.unusedVariables false
set_option maxRecDepth 100000

/-- The 26 letters from f on turned into those from t on. -/
def cas (f t x : Nat) : Nat := if f ≤ x ∧ x < f + 26 then x - f + t else x
def casB (f t : Nat) (s : ByteArray) : ByteArray := ⟨(s.data.toList.map fun c => UInt8.ofNat (cas f t c.toNat)).toArray⟩
/-- The j-th byte. -/
def byt (s : ByteArray) (j : Nat) : Nat := (s.data.toList.getD j 0).toNat
theorem byt_le (s : ByteArray) (j : Nat) : byt s j ≤ 255 := by have := (s.data.toList.getD j 0).toNat_lt; unfold byt; omega
/-- The cells of a row, none of them frozen. -/
def Row (w : World) (b n : Nat) (f : Nat → Int) : Prop := (∀ j, j < n → w.cell? ⟨b, j, none⟩ = some (.int .u8 (f j))) ∧ ∀ j, j < n → w.frozen? ⟨b, j, none⟩ = false
theorem Row.congr {w : World} {b n : Nat} {f g : Nat → Int} (h : Row w b n f) (e : ∀ j, j < n → f j = g j) : Row w b n g := ⟨fun j hj => by rw [h.1 j hj, e j hj], h.2⟩
theorem Row.set {w : World} {b n : Nat} {f : Nat → Int} (h : Row w b n f) (i : Nat) (hi : i < n) (v : Int) : Row (w.setCell ⟨b, i, none⟩ (.int .u8 v)) b n (fun j => if j = i then v else f j) := by
  refine ⟨fun j hj => ?_, fun j hj => by rw [World.frozen?_setCell]; exact h.2 j hj⟩
  by_cases e : j = i
  · subst e; simp only [if_true]; exact World.cell?_setCell_same _ _ _ (h.1 j hi)
  · simp only [if_neg e]; rw [World.cell?_setCell_other _ _ _ _ (by simp)]; exact h.1 j hj
theorem row_new (w : World) (s : ByteArray) : Row (Lib.bytesWorld w 5 s) w.heap.size s.size (fun j => byt s j) := by
  refine ⟨fun j hj => Lib.bytesWorld_cell w 5 s j hj, fun j hj => ?_⟩
  have hz : s.size ≤ (Lib.bytesCells w 5 s).size := by simp [Lib.bytesCells]
  simp [World.frozen?, Lib.bytesWorld_at_new]
  omega
theorem bytes_below (w : World) (s : ByteArray) : Below w.heap.size w (Lib.bytesWorld w 5 s) :=
  ⟨rfl, rfl, rfl, by rw [Lib.bytesWorld_size]; omega, fun k hk => Lib.bytesWorld_at_old w _ s k hk⟩
theorem conv_cells {w : World} {b n c : Nat} {L : List UInt8} {f : Nat → Int} (h : Row w b n f) (hl : L.length = n) (hf : ∀ j, j < n → f j = (L.getD j 0).toNat) :
    (convert 93 9 (.slice (some ⟨b, 0, none⟩) n c)).run Tryz.prog w = .ok (.string ⟨L.toArray⟩) w := by
  have := run_convert_bytes_arg (P := Tryz.prog) w 93 5 Tryz.underlying93 Tryz.underlying5 b 0 n c (L.map fun x => (x.toNat : Int)) (by simpa using hl) (fun i hi => by
    rw [Nat.zero_add, h.1 i hi, hf i hi]
    simp [List.getD, List.getElem?_map, List.getElem?_eq_getElem (show i < L.length by omega)]) 9 Tryz.underlying9
  rw [this]
  congr 2
  unfold strOfNums
  congr 2
  rw [List.map_map]
  conv => rhs; rw [← List.map_id L]
  apply List.map_congr_left
  intro x _
  simp
theorem cas_le {f t x : Nat} (hf : f ≤ 97) (ht : t ≤ 97) (hx : x ≤ 255) : cas f t x ≤ 255 := by unfold cas; split <;> omega
theorem cas_at (f t : Nat) (s : ByteArray) (hf : f ≤ 97) (ht : t ≤ 97) (j : Nat) (hj : j < s.size) : ((cas f t (byt s j) : Nat) : Int) = (((s.data.toList.map fun c => UInt8.ofNat (cas f t c.toNat)).getD j 0).toNat : Int) := by
  have hl : j < s.data.toList.length := by rw [← Lib.size_eq]; exact hj
  have h := cas_le hf ht (byt_le s j)
  unfold byt at *
  simp only [List.getD, List.getElem?_map, List.getElem?_eq_getElem hl, Option.map_some, Option.getD_some] at *
  rw [b1 (by omega)]
set_option maxHeartbeats 1000000 in
theorem recased_any (s : ByteArray) (f t : Nat) (hf : f ≤ 97) (ht : t ≤ 97) (hs : s.size ≤ 200000) : CallIs 112 #[.string s, .int .u8 f, .int .u8 t] (.string (casB f t s)) := by
  intro w
  have hcv : ∀ w : World, (convert 9 93 (.string s)).run Tryz.prog w = _ := fun w => Lib.run_convert_string_bytes w 9 93 5 s Tryz.underlying9 Tryz.underlying93 Tryz.underlying5
  have hR0 := hide (row_new w s)
  have hB0 := hide (bytes_below w s)
  generalize hgc : grownCap w s.size 0 5 = gc at *
  go_enter Tryz.func112, Tryz.ntmps112
  go_wp2
  generalize Lib.bytesWorld w 5 s = w0 at *
  clear hcv hgc
  go_loopw [8, 9, 14] (fun _ _ i wr => ∃ k : Nat, k ≤ s.size ∧ i = .int .i64 k ∧ Hid (Row wr w.heap.size s.size (fun j => if j < k then (cas f t (byt s j) : Nat) else (byt s j : Nat))) ∧ Hid (Below w.heap.size w wr)) (fun _ _ i _ => s.size - (intOf i).toNat)
  case atStart => exact ⟨0, Nat.zero_le _, rfl, hide (hR0.out.congr fun j _ => by simp), hB0⟩
  case round =>
    clear hR0 hB0
    obtain ⟨k, hk, rfl, hR, hB⟩ := hrel
    by_cases hlt : k < s.size
    · have c1 := hR.out.1 k hlt
      have f1 := hR.out.2 k hlt
      simp only [Nat.lt_irrefl, if_false] at c1
      have hx := byt_le s k
      have hw1 : (f : Int) + 26 ≤ 255 := by omega
      have hk1 : (k : Int) + 1 ≤ 9223372036854775807 := by omega
      have hstep : Hid (∀ W, Row W w.heap.size s.size (fun j => if j = k then ((cas f t (byt s k) : Nat) : Int) else if j < k then (cas f t (byt s j) : Nat) else (byt s j : Nat)) → Row W w.heap.size s.size (fun j => if j < k + 1 then (cas f t (byt s j) : Nat) else (byt s j : Nat))) := by
        refine hide fun W h => h.congr fun j _ => ?_
        by_cases e : j = k
        · subst e; simp
        · simp only [if_neg e]
          by_cases e2 : j < k
          · rw [if_pos e2, if_pos (by omega)]
          · rw [if_neg e2, if_neg (by omega)]
      by_cases h1 : (f : Int) ≤ byt s k
      · by_cases h2 : (byt s k : Int) < f + 26
        · have hc : Hid ((cas f t (byt s k) : Int) = (byt s k : Int) - f + t) := hide (by unfold cas; rw [if_pos (by omega)]; omega)
          have hset := hide (hR.out.set k hlt ((byt s k : Int) - f + t))
          have hBs := hide (hB.out.setCell (p := ⟨w.heap.size, k, none⟩) (Nat.le_refl _) (.int .u8 ((byt s k : Int) - f + t)))
          have a1 : 0 ≤ (byt s k : Int) - f := by omega
          have a2 : (byt s k : Int) - f ≤ 255 := by omega
          have a3 : (byt s k : Int) - f + t ≤ 255 := by omega
          have a4 : 0 ≤ (byt s k : Int) - f + t := by omega
          generalize byt s k = x at *
          go_wp2
          go_roundw
          case rel => exact ⟨k + 1, by omega, by go_num, hide (hstep.out _ (by rw [hc.out]; exact hset.out)), hBs⟩
          case measure => simp [intOf]; omega
        · have hc : Hid (cas f t (byt s k) = byt s k) := hide (by unfold cas; rw [if_neg (by omega)])
          have hR' := hide (hstep.out _ (hR.out.congr fun j _ => by by_cases e : j = k; · subst e; simp [hc.out]
                                                                    · simp [e]))
          generalize byt s k = x at *
          go_wp2
          go_roundw
          case rel => exact ⟨k + 1, by omega, by go_num, hR', hB⟩
          case measure => simp [intOf]; omega
      · have hc : Hid (cas f t (byt s k) = byt s k) := hide (by unfold cas; rw [if_neg (by omega)])
        have hR' := hide (hstep.out _ (hR.out.congr fun j _ => by by_cases e : j = k; · subst e; simp [hc.out]
                                                                  · simp [e]))
        generalize byt s k = x at *
        go_wp2
        go_roundw
        case rel => exact ⟨k + 1, by omega, by go_num, hR', hB⟩
        case measure => simp [intOf]; omega
    · obtain rfl : k = s.size := by omega
      have hcb := conv_cells (c := gc) (L := s.data.toList.map fun c => UInt8.ofNat (cas f t c.toNat)) hR.out (by rw [List.length_map, ← Lib.size_eq]) (fun j hj => by rw [if_pos hj]; exact cas_at f t s hf ht j hj)
      have hcb' : (convert 93 9 (.slice (some ⟨w.heap.size, 0, none⟩) s.size gc)).run Tryz.prog wr = .ok (.string (casB f t s)) wr := hcb
      clear hcb
      go_wp2
      go_ret
      exact ⟨rfl, hB.out⟩
theorem upper_any (s : ByteArray) (hs : s.size ≤ 200000) : CallIs 64 #[.string s] (.string (casB 97 65 s)) := by
  intro w
  have H := recased_any s 97 65 (by decide) (by decide) hs
  generalize casB 97 65 s = u at *
  go_enter Tryz.func64, Tryz.ntmps64
  go_wp2_with (go_at_call 112; refine (H.out _).mono ?_; rintro e w1 ⟨rfl, hb⟩)
  go_ret
  exact ⟨rfl, hb⟩
theorem lower_any (s : ByteArray) (hs : s.size ≤ 200000) : CallIs 66 #[.string s] (.string (casB 65 97 s)) := by
  intro w
  have H := recased_any s 65 97 (by decide) (by decide) hs
  generalize casB 65 97 s = u at *
  go_enter Tryz.func66, Tryz.ntmps66
  go_wp2_with (go_at_call 112; refine (H.out _).mono ?_; rintro e w1 ⟨rfl, hb⟩)
  go_ret
  exact ⟨rfl, hb⟩
end Go.Proofs.YtgnmkhjilecdhaaGreatDoor.T5
