/- plays' first statement: three texts are cut, whatever the order that is drawn. Proved of the Go text. -/
import Derived.Test.YtllbgjeibcaajaaDoorOp5
import Derived.Test.YtllbgjeibcaajaaDoorEnv5
import Derived.BigRegion
namespace Go.Proofs.YtllbgjeibcaajaaDoor
open Go.RowKit Go.Sort
set_option linter.unusedVariables false

/-- short answers, and the world is as it was. -/
abbrev StillIs (s S : ByteArray) : Prop := Hid (∀ w, Calls Tryd.prog 13 #[.string s] w fun e w' => e = .returned (.string S) ∧ w' = w)
theorem short_still (s : ByteArray) : StillIs s (sh s) := by
  intro w
  by_cases h : s.size > 200000
  · have e : Hid (sh s = s.extract 0 200000) := hide (if_pos h)
    have h1 : (s.size : Int) > 200000 := by omega
    have h2 : 200000 ≤ s.size := by omega
    go_enter Tryd.func13, Tryd.ntmps13
    go_wp2_with fail
    go_ret
    exact ⟨by rw [e.out]; rfl, rfl⟩
  · have e : Hid (sh s = s) := hide (if_neg h)
    have h1 : ¬ (s.size : Int) > 200000 := by omega
    go_enter Tryd.func13, Tryd.ntmps13
    go_wp2_with fail
    go_ret
    exact ⟨by rw [e.out]; rfl, rfl⟩
theorem drew_op (w : World) (k n m : Int) (s t u : ByteArray) : OpAt (w.alloc (opO k s t u n m)).drew w.heap.size k s t u n m := Blk.new w _ _
theorem drew_below (w : World) (o : Obj) : Below w.heap.size w (w.alloc o).drew := by
  have h := step (Below.refl w.heap.size w) o
  exact ⟨h.os, h.tape, h.output, h.size, h.block⟩
set_option maxHeartbeats 40000000 in
set_option maxRecDepth 100000 in
theorem cut_region (k n m : Int) (s t u S T U : ByteArray) (w : World) (H1 : StillIs s S) (H2 : StillIs t T) (H3 : StillIs u U) (K : Act → World → Prop) (R : Ending → World → Prop) (y0 y2 y3 y4 y5 y6 y7 y8 y9 y10 y11 y12 y13 y14 y15 y16 y17 y18 y19 y20 y21 y22 y23 y24 y25 y26 y27 y28 y29 y30 y31 y32 y33 y34 y35 y36 y37 y38 y39 y40 y41 y42 y43 y44 y45 y46 y47 y48 y49 y50 y51 y52 y53 y54 y55 y56 y57 y58 y59 y60 y61 y62 y63 y64 y65 y66 y67 y68 y69 y70 y71 y72 y73 y74 y75 y76 y77 y78 y79 y80 y81 y82 y83 y84 y85 y86 y87 y88 y89 y90 y91 y92 y93 y94 y95 y96 y97 y98 y99 y100 y101 y102 y103 y104 y105 y106 y107 y108 y109 y110 y111 y112 y113 y114 y115 y116 y117 y118 y119 y120 y121 y122 : Value)
    (hQ : ∀ w', OpAt w' w.heap.size k S T U n m → Below w.heap.size w w' → K { tmps := #[y0, .pointer (some ⟨w.heap.size, 0, none⟩), y2, y3, y4, y5, y6, y7, y8, y9, y10, y11, y12, y13, y14, .pointer (some ⟨w.heap.size, 1, none⟩), .string s, .string S, .pointer (some ⟨w.heap.size, 2, none⟩), .string t, .string T, .pointer (some ⟨w.heap.size, 3, none⟩), .string u, .string U, .pointer (some ⟨w.heap.size, 1, none⟩), .pointer (some ⟨w.heap.size, 2, none⟩), .pointer (some ⟨w.heap.size, 3, none⟩), y27, y28, y29, y30, y31, y32, y33, y34, y35, y36, y37, y38, y39, y40, y41, y42, y43, y44, y45, y46, y47, y48, y49, y50, y51, y52, y53, y54, y55, y56, y57, y58, y59, y60, y61, y62, y63, y64, y65, y66, y67, y68, y69, y70, y71, y72, y73, y74, y75, y76, y77, y78, y79, y80, y81, y82, y83, y84, y85, y86, y87, y88, y89, y90, y91, y92, y93, y94, y95, y96, y97, y98, y99, y100, y101, y102, y103, y104, y105, y106, y107, y108, y109, y110, y111, y112, y113, y114, y115, y116, y117, y118, y119, y120, y121, y122], defers := [] } w') :
    (c1 (c2 (Tryd.f5.body.getD .skip))).wp Tryd.prog (Exit.then K (bodyPost Tryd.prog Tryd.f5 R)) { tmps := #[y0, .pointer (some ⟨w.heap.size, 0, none⟩), y2, y3, y4, y5, y6, y7, y8, y9, y10, y11, y12, y13, y14, y15, y16, y17, y18, y19, y20, y21, y22, y23, y24, y25, y26, y27, y28, y29, y30, y31, y32, y33, y34, y35, y36, y37, y38, y39, y40, y41, y42, y43, y44, y45, y46, y47, y48, y49, y50, y51, y52, y53, y54, y55, y56, y57, y58, y59, y60, y61, y62, y63, y64, y65, y66, y67, y68, y69, y70, y71, y72, y73, y74, y75, y76, y77, y78, y79, y80, y81, y82, y83, y84, y85, y86, y87, y88, y89, y90, y91, y92, y93, y94, y95, y96, y97, y98, y99, y100, y101, y102, y103, y104, y105, y106, y107, y108, y109, y110, y111, y112, y113, y114, y115, y116, y117, y118, y119, y120, y121, y122], defers := [] } (w.alloc (opO k s t u n m)) := by
  dsimp only [Tryd.f5, Option.getD, c1, c2]
  go_region_with (first | (with_reducible refine (H1.out _).mono ?_; rintro e w' ⟨rfl, rfl⟩) | (with_reducible refine (H2.out _).mono ?_; rintro e w' ⟨rfl, rfl⟩) | (with_reducible refine (H3.out _).mono ?_; rintro e w' ⟨rfl, rfl⟩))
  all_goals exact hQ _ (drew_op w k n m S T U) (drew_below w _)
end Go.Proofs.YtllbgjeibcaajaaDoor
