/- spelled: a word as it is written, for every word. Proved of the Go text. -/
import Derived.Test.YtljdkmfigcclkaaDoorBlR8
import Derived.Test.YtljdkmfigcclkaaDoorOwn8
import Derived.Lib.ConvBytes
namespace Go.Proofs.YtljdkmfigcclkaaDoor
open Go.RowKit Go.Sort
set_option linter.unusedVariables false

/-- What spelled answers: bytes in new memory. -/
def SplP (w w' : World) (t : List UInt8) (e : Ending) : Prop := Below w.heap.size w w' ∧ ∃ g c, e = .returned (.slice (some ⟨g, 0, none⟩) t.length c) ∧ w.heap.size ≤ g ∧ ∀ j (h : j < t.length), w'.cell? ⟨g, j, none⟩ = some (.int .u8 (t[j].toNat : Int))
theorem bytes_below8 (w : World) (s : ByteArray) : Below w.heap.size w (Lib.bytesWorld w 5 s) :=
  ⟨rfl, rfl, rfl, by rw [Lib.bytesWorld_size]; omega, fun k hk => Lib.bytesWorld_at_old w _ s k hk⟩
theorem dbl_snoc (t : List UInt8) (c : UInt8) : dbl (t ++ [c]) = dbl t ++ (if c = 34 then [34, 34] else [c]) := by simp [dbl]
theorem dbl_le (t : List UInt8) : (dbl t).length ≤ 2 * t.length := by
  induction t with
  | nil => simp [dbl]
  | cons c t ih =>
    have : dbl (c :: t) = (if c = 34 then [34, 34] else [c]) ++ dbl t := by simp [dbl]
    rw [this, List.length_append, List.length_cons]
    split <;> simp <;> omega
set_option maxHeartbeats 4000000 in
theorem spl_other (k : Nat) (s : ByteArray) (i : Int) (w : World) (hk : k ≠ 2) : Calls Tryd.prog 10 #[wdV k s i] w fun e w' => SplP w w' s.data.toList e := by
  have k2 : ((k : Int) != 2) = true := by rw [bne_iff_ne]; omega
  have hcv : ∀ w : World, (convert 9 26 (.string s)).run Tryd.prog w = _ := fun w => Lib.run_convert_string_bytes w 9 26 5 s Tryd.underlying9 Tryd.underlying26 Tryd.underlying5
  have hB := hide (next (step (Below.refl w.heap.size w) (wdO k s i)) (bytes_below8 (w.alloc (wdO k s i)) s))
  have hce := hide (fun j hj => Lib.bytesWorld_cell (w.alloc (wdO k s i)) 5 s j hj)
  rw [World.size_alloc] at hce
  go_enter Tryd.func10, Tryd.ntmps10
  go_wp2_with fail
  go_ret
  refine ⟨hB.out, w.heap.size + 1, _, rfl, by omega, fun j hj => ?_⟩
  rw [hce.out j (by rw [Lib.size_eq]; exact hj), List.getD_eq_getElem?_getD, List.getElem?_eq_getElem hj]; rfl
set_option maxRecDepth 100000 in
set_option maxHeartbeats 4000000 in
theorem spl_text (s : ByteArray) (i : Int) (w : World) (hs : s.size ≤ 65535) : Calls Tryd.prog 10 #[wdV 2 s i] w fun e w' => SplP w w' ([34] ++ dbl s.data.toList ++ [34]) e := by
  have hs' : s.size ≤ 9223372036854775807 := by omega
  have hL := hide (Lib.size_eq s)
  have B1 := hide (step (step (Below.refl w.heap.size w) (wdO 2 s i)) (.cells #[.int .u8 34] 5))
  have bk1 := hide ((Blk.new w #[.int .i64 2, .string s, .int .i64 i] 32).alloc (.cells #[.int .u8 34] 5))
  have O1 : Hid (Own ((w.alloc (wdO 2 s i)).alloc (.cells #[.int .u8 34] 5)) w.heap.size (.slice (some ⟨w.heap.size + 1, 0, none⟩) 1 1) [34]) := hide (by
    have := World.ownsRow_lit (base := w.heap.size) (e := 5) (size := 1) (w.alloc (wdO 2 s i)) #[.int .u8 34] 1 (by rw [World.size_alloc]; omega) (by decide) rfl
    rw [World.size_alloc] at this
    exact this)
  obtain ⟨w1, hw1⟩ : ∃ w1, (w.alloc (wdO 2 s i)).alloc (.cells #[.int .u8 34] 5) = w1 := ⟨_, rfl⟩
  rw [hw1] at B1 bk1 O1
  go_enter Tryd.func10, Tryd.ntmps10
  go_wp2_with fail
  go_loopw [3, 4] (fun v a wr => ∃ (k : Nat) (M : List UInt8), k ≤ s.size ∧ a = .int .i64 k ∧ Hid (M = [34] ++ dbl (s.data.toList.take k)) ∧ Hid (Own wr w.heap.size v M) ∧ Hid (Blk wr w.heap.size #[.int .i64 2, .string s, .int .i64 i] 32) ∧ Hid (Below w.heap.size w wr)) (fun _ a _ => s.size - (intOf a).toNat)
  case atStart => exact ⟨0, _, Nat.zero_le _, rfl, hide rfl, O1, bk1, B1⟩
  case round =>
    obtain ⟨k, M, hk, rfl, hM, hO, hbk, hB⟩ := hrel
    obtain ⟨av, cv, rfl⟩ := hO.out.slice
    obtain ⟨c0, c1, c2⟩ := hbk.out.cells3
    have hk1 : (k : Int) + 1 ≤ 9223372036854775807 := by omega
    have hBs := hide hB.out.size
    have hlen : Hid (M.length ≤ 200000) := hide (by
      rw [hM.out]
      have := dbl_le (s.data.toList.take k)
      rw [List.length_take] at this
      rw [List.length_append, List.length_singleton]; omega)
    by_cases hlt : k < s.size
    · have hki : (k : Int) < s.size := by omega
      have hst : Hid ([34] ++ dbl (s.data.toList.take (k + 1)) = M ++ (if s[k] = 34 then [34, 34] else [s[k]])) := hide (by
        have hl : k < s.data.toList.length := by rw [← Lib.size_eq]; exact hlt
        rw [hM.out, List.take_succ_eq_append_getElem hl, dbl_snoc, List.append_assoc]
        rfl)
      have e34 : ((s[k].toNat : Int) == 34) = (s[k] == 34) := eq_c8 s[k] 34 (by decide)
      cases h34 : (s[k] == 34)
      · rw [h34] at e34
        have hst2 : Hid ([34] ++ dbl (s.data.toList.take (k + 1)) = M ++ [s[k]]) := hide (by rw [hst.out, if_neg (by simpa using h34)])
        clear h34 hst
        have q1 := hide (hO.out.keep (step (Below.refl _ _) (.cells #[.int .u8 (s[k].toNat : Int)] 5)))
        have q2 := hide (hbk.out.keep (step (Below.refl _ _) (.cells #[.int .u8 (s[k].toNat : Int)] 5)))
        have q3 := hide (step hB.out (.cells #[.int .u8 (s[k].toNat : Int)] 5))
        have q4 : (wr.alloc (.cells #[.int .u8 (s[k].toNat : Int)] 5)).cell? ⟨wr.heap.size, 0, none⟩ = some (.int .u8 ((s[k] : UInt8).toNat : Int)) := (Blk.new wr _ _).at' 0
        have q5 := hide hB.out.size
        go_wp2_with (at_builtin; refine wpList_appB rfl _ _ rfl rfl rfl q1.out q4 (by have := hlen.out; omega) (by have := q5.out; simp; omega) ?_)
        intro v3 w3 hO3 hg3
        have hbk3 := hide (q2.out.kept hg3 (fun e => row_ne q1.out q2.out (by decide) e.symm))
        have hB3 := hide (q3.out.grown hg3 q3.out.size (fun j e => (q1.out.lt j e).1))
        replace hO3 := hide hO3
        clear q1 q2 q3 q4 q5 hg3
        go_wp2_with fail
        go_roundw
        case rel => exact ⟨k + 1, M ++ [s[k]], by omega, by go_num, hide hst2.out.symm, hO3, hbk3, hB3⟩
        case measure => simp [intOf]; omega
      · rw [h34] at e34
        have hst2 : Hid ([34] ++ dbl (s.data.toList.take (k + 1)) = M ++ [34] ++ [s[k]]) := hide (by
          have h : s[k] = 34 := by simpa using h34
          rw [hst.out, if_pos h, h, List.append_assoc]; rfl)
        clear h34 hst
        have q1 := hide (hO.out.keep (step (Below.refl _ _) (.cells #[.int .u8 34] 5)))
        have q2 := hide (hbk.out.keep (step (Below.refl _ _) (.cells #[.int .u8 34] 5)))
        have q3 := hide (step hB.out (.cells #[.int .u8 34] 5))
        have q4 : (wr.alloc (.cells #[.int .u8 34] 5)).cell? ⟨wr.heap.size, 0, none⟩ = some (.int .u8 ((34 : UInt8).toNat : Int)) := (Blk.new wr _ _).at' 0
        have q5 := hide hB.out.size
        go_wp2_with (at_builtin; refine wpList_appB rfl _ _ rfl rfl rfl q1.out q4 (by have := hlen.out; omega) (by have := q5.out; simp; omega) ?_)
        intro v3 w3 hO3 hg3
        have hbk3 := hide (q2.out.kept hg3 (fun e => row_ne q1.out q2.out (by decide) e.symm))
        have hB3 := hide (q3.out.grown hg3 q3.out.size (fun j e => (q1.out.lt j e).1))
        replace hO3 := hide hO3
        clear q1 q2 q3 q4 q5 hg3
        obtain ⟨M2, hM2⟩ : ∃ M2, M ++ [34] = M2 := ⟨_, rfl⟩
        have hlen2 : Hid (M2.length ≤ 200001) := hide (by rw [← hM2, List.length_append, List.length_singleton]; have := hlen.out; omega)
        rw [hM2] at hO3 hst2
        clear hM2
        obtain ⟨d0, d1, d2⟩ := hbk3.out.cells3
        obtain ⟨av3, cv3, rfl⟩ := hO3.out.slice
        have q1 := hide (hO3.out.keep (step (Below.refl _ _) (.cells #[.int .u8 (s[k].toNat : Int)] 5)))
        have q2 := hide (hbk3.out.keep (step (Below.refl _ _) (.cells #[.int .u8 (s[k].toNat : Int)] 5)))
        have q3 := hide (step hB3.out (.cells #[.int .u8 (s[k].toNat : Int)] 5))
        have q4 : (w3.alloc (.cells #[.int .u8 (s[k].toNat : Int)] 5)).cell? ⟨w3.heap.size, 0, none⟩ = some (.int .u8 ((s[k] : UInt8).toNat : Int)) := (Blk.new w3 _ _).at' 0
        have q5 := hide hB3.out.size
        go_wp2_with (at_builtin; refine wpList_appB rfl _ _ rfl rfl rfl q1.out q4 (by have := hlen2.out; omega) (by have := q5.out; simp; omega) ?_)
        intro v4 w4 hO4 hg4
        have hbk4 := hide (q2.out.kept hg4 (fun e => row_ne q1.out q2.out (by decide) e.symm))
        have hB4 := hide (q3.out.grown hg4 q3.out.size (fun j e => (q1.out.lt j e).1))
        replace hO4 := hide hO4
        clear q1 q2 q3 q4 q5 hg4
        go_wp2_with fail
        go_roundw
        case rel => exact ⟨k + 1, M2 ++ [s[k]], by omega, by go_num, hide hst2.out.symm, hO4, hbk4, hB4⟩
        case measure => simp [intOf]; omega
    · have hki : ¬ (k : Int) < s.size := by omega
      have hfin : Hid ([34] ++ dbl s.data.toList = M) := hide (by rw [hM.out, List.take_of_length_le (by rw [← Lib.size_eq]; omega)])
      have q1 := hide (hO.out.keep (step (Below.refl _ _) (.cells #[.int .u8 34] 5)))
      have q2 := hide (hbk.out.keep (step (Below.refl _ _) (.cells #[.int .u8 34] 5)))
      have q3 := hide (step hB.out (.cells #[.int .u8 34] 5))
      have q4 : (wr.alloc (.cells #[.int .u8 34] 5)).cell? ⟨wr.heap.size, 0, none⟩ = some (.int .u8 ((34 : UInt8).toNat : Int)) := (Blk.new wr _ _).at' 0
      have q5 := hide hB.out.size
      go_wp2_with (at_builtin; refine wpList_appB rfl _ _ rfl rfl rfl q1.out q4 (by have := hlen.out; omega) (by have := q5.out; simp; omega) ?_)
      intro v3 w3 hO3 hg3
      have hbk3 := hide (q2.out.kept hg3 (fun e => row_ne q1.out q2.out (by decide) e.symm))
      have hB3 := hide (q3.out.grown hg3 q3.out.size (fun j e => (q1.out.lt j e).1))
      replace hO3 := hide hO3
      clear q1 q2 q3 q4 q5 hg3
      go_wp2_with fail
      obtain ⟨g, cap, cur, rfl, hg, _, _, _, _, hce⟩ := hO3.out.parts (by simp)
      go_ret
      show SplP w w3 ([34] ++ dbl s.data.toList ++ [34]) _
      rw [hfin.out]
      exact ⟨hB3.out, g, cap, rfl, hg, hce⟩
end Go.Proofs.YtljdkmfigcclkaaDoor
