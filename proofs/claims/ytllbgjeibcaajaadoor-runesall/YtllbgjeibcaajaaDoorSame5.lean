/- The law's own one and meant, for each kind of call: they answer what the call answers. Proved of the Go text. -/
import Derived.Test.YtllbgjeibcaajaaDoorKit5
namespace Go.Proofs.YtllbgjeibcaajaaDoor
open Go.RowKit Go.Sort
set_option linter.unusedVariables false

/-- One call: its kind, three texts, two numbers. -/
abbrev opV (k : Int) (s t u : ByteArray) (n m : Int) : Value := .agg #[.int .i64 k, .string s, .string t, .string u, .int .i64 n, .int .i64 m]
abbrev opO (k : Int) (s t u : ByteArray) (n m : Int) : Obj := .cells #[.int .i64 k, .string s, .string t, .string u, .int .i64 n, .int .i64 m] 26
set_option maxHeartbeats 1000000 in
theorem one_2 (s t u : ByteArray) (n m : Int) (S : ByteArray) (E : Int) (H : CallT 6 #[.string s, .int .i64 n] (.tuple #[.string S, .int .i64 E])) : CallT 18 #[opV 2 s t u n m] (.tuple #[.string S, .int .i64 E]) := by
  intro w hT
  replace hT := hide (hT.alloc (opO 2 s t u n m))
  go_enter Tryd.func18, Tryd.ntmps18
  go_wp2_with fail
  refine (H.out _ hT.out).mono ?_
  rintro e w1 ⟨rfl, hb⟩
  go_wp2_with fail
  go_ret2
  exact ⟨rfl, next (step (Below.refl _ _) _) hb⟩
set_option maxHeartbeats 1000000 in
theorem one_3 (s t u : ByteArray) (n m : Int) (S : ByteArray) (E : Int) (H : CallT 27 #[.string s, .int .i64 n] (.tuple #[.string S, .int .i64 E])) : CallT 18 #[opV 3 s t u n m] (.tuple #[.string S, .int .i64 E]) := by
  intro w hT
  replace hT := hide (hT.alloc (opO 3 s t u n m))
  go_enter Tryd.func18, Tryd.ntmps18
  go_wp2_with fail
  refine (H.out _ hT.out).mono ?_
  rintro e w1 ⟨rfl, hb⟩
  go_wp2_with fail
  go_ret2
  exact ⟨rfl, next (step (Below.refl _ _) _) hb⟩
set_option maxHeartbeats 1000000 in
theorem one_4 (s t u : ByteArray) (n m : Int) (S : ByteArray) (E : Int) (H : CallT 28 #[.string s, .int .i64 n, .int .i64 m] (.tuple #[.string S, .int .i64 E])) : CallT 18 #[opV 4 s t u n m] (.tuple #[.string S, .int .i64 E]) := by
  intro w hT
  replace hT := hide (hT.alloc (opO 4 s t u n m))
  go_enter Tryd.func18, Tryd.ntmps18
  go_wp2_with fail
  refine (H.out _ hT.out).mono ?_
  rintro e w1 ⟨rfl, hb⟩
  go_wp2_with fail
  go_ret2
  exact ⟨rfl, next (step (Below.refl _ _) _) hb⟩
set_option maxHeartbeats 1000000 in
theorem one_5 (s t u : ByteArray) (n m : Int) (S : ByteArray) (H : CallT 29 #[.string s] (.string S)) : CallT 18 #[opV 5 s t u n m] (.tuple #[.string S, .int .i64 0]) := by
  intro w hT
  replace hT := hide (hT.alloc (opO 5 s t u n m))
  go_enter Tryd.func18, Tryd.ntmps18
  go_wp2_with fail
  refine (H.out _ hT.out).mono ?_
  rintro e w1 ⟨rfl, hb⟩
  go_wp2_with fail
  go_ret2
  exact ⟨rfl, next (step (Below.refl _ _) _) hb⟩
set_option maxHeartbeats 1000000 in
theorem one_6 (s t u : ByteArray) (n m : Int) (S : ByteArray) (H : CallT 30 #[.string s] (.string S)) : CallT 18 #[opV 6 s t u n m] (.tuple #[.string S, .int .i64 0]) := by
  intro w hT
  replace hT := hide (hT.alloc (opO 6 s t u n m))
  go_enter Tryd.func18, Tryd.ntmps18
  go_wp2_with fail
  refine (H.out _ hT.out).mono ?_
  rintro e w1 ⟨rfl, hb⟩
  go_wp2_with fail
  go_ret2
  exact ⟨rfl, next (step (Below.refl _ _) _) hb⟩
set_option maxHeartbeats 1000000 in
theorem one_7 (s t u : ByteArray) (n m : Int) (S : ByteArray) (H : CallT 31 #[.string s] (.string S)) : CallT 18 #[opV 7 s t u n m] (.tuple #[.string S, .int .i64 0]) := by
  intro w hT
  replace hT := hide (hT.alloc (opO 7 s t u n m))
  go_enter Tryd.func18, Tryd.ntmps18
  go_wp2_with fail
  refine (H.out _ hT.out).mono ?_
  rintro e w1 ⟨rfl, hb⟩
  go_wp2_with fail
  go_ret2
  exact ⟨rfl, next (step (Below.refl _ _) _) hb⟩
set_option maxHeartbeats 1000000 in
theorem one_8 (s t u : ByteArray) (n m : Int) (S : ByteArray) (H : CallT 12 #[.string s] (.string S)) : CallT 18 #[opV 8 s t u n m] (.tuple #[.string S, .int .i64 0]) := by
  intro w hT
  replace hT := hide (hT.alloc (opO 8 s t u n m))
  go_enter Tryd.func18, Tryd.ntmps18
  go_wp2_with fail
  refine (H.out _ hT.out).mono ?_
  rintro e w1 ⟨rfl, hb⟩
  go_wp2_with fail
  go_ret2
  exact ⟨rfl, next (step (Below.refl _ _) _) hb⟩
set_option maxHeartbeats 1000000 in
theorem one_10 (s t u : ByteArray) (n m : Int) (S : ByteArray) (E : Int) (H : CallT 32 #[.string s, .string t, .string u] (.tuple #[.string S, .int .i64 E])) : CallT 18 #[opV 10 s t u n m] (.tuple #[.string S, .int .i64 E]) := by
  intro w hT
  replace hT := hide (hT.alloc (opO 10 s t u n m))
  go_enter Tryd.func18, Tryd.ntmps18
  go_wp2_with fail
  refine (H.out _ hT.out).mono ?_
  rintro e w1 ⟨rfl, hb⟩
  go_wp2_with fail
  go_ret2
  exact ⟨rfl, next (step (Below.refl _ _) _) hb⟩
set_option maxHeartbeats 1000000 in
theorem one_11 (s t u : ByteArray) (n m : Int) (S : ByteArray) (E : Int) (H : CallT 33 #[.string s, .int .i64 n] (.tuple #[.string S, .int .i64 E])) : CallT 18 #[opV 11 s t u n m] (.tuple #[.string S, .int .i64 E]) := by
  intro w hT
  replace hT := hide (hT.alloc (opO 11 s t u n m))
  go_enter Tryd.func18, Tryd.ntmps18
  go_wp2_with fail
  refine (H.out _ hT.out).mono ?_
  rintro e w1 ⟨rfl, hb⟩
  go_wp2_with fail
  go_ret2
  exact ⟨rfl, next (step (Below.refl _ _) _) hb⟩
set_option maxHeartbeats 1000000 in
theorem one_13 (s t u : ByteArray) (n m : Int) (S : ByteArray) (E : Int) (H : CallT 9 #[.int .i64 n] (.tuple #[.string S, .int .i64 E])) : CallT 18 #[opV 13 s t u n m] (.tuple #[.string S, .int .i64 E]) := by
  intro w hT
  replace hT := hide (hT.alloc (opO 13 s t u n m))
  go_enter Tryd.func18, Tryd.ntmps18
  go_wp2_with fail
  refine (H.out _ hT.out).mono ?_
  rintro e w1 ⟨rfl, hb⟩
  go_wp2_with fail
  go_ret2
  exact ⟨rfl, next (step (Below.refl _ _) _) hb⟩
set_option maxHeartbeats 1000000 in
theorem meant_2 (s t u : ByteArray) (n m : Int) (S : ByteArray) (E : Int) (H : CallT 34 #[.string s, .int .i64 n] (.tuple #[.string S, .int .i64 E])) : CallT 19 #[opV 2 s t u n m] (.tuple #[.string S, .int .i64 E]) := by
  intro w hT
  replace hT := hide (hT.alloc (opO 2 s t u n m))
  go_enter Tryd.func19, Tryd.ntmps19
  go_wp2_with fail
  refine (H.out _ hT.out).mono ?_
  rintro e w1 ⟨rfl, hb⟩
  go_wp2_with fail
  go_ret2
  exact ⟨rfl, next (step (Below.refl _ _) _) hb⟩
set_option maxHeartbeats 1000000 in
theorem meant_3 (s t u : ByteArray) (n m : Int) (S : ByteArray) (E : Int) (H : CallT 35 #[.string s, .int .i64 n] (.tuple #[.string S, .int .i64 E])) : CallT 19 #[opV 3 s t u n m] (.tuple #[.string S, .int .i64 E]) := by
  intro w hT
  replace hT := hide (hT.alloc (opO 3 s t u n m))
  go_enter Tryd.func19, Tryd.ntmps19
  go_wp2_with fail
  refine (H.out _ hT.out).mono ?_
  rintro e w1 ⟨rfl, hb⟩
  go_wp2_with fail
  go_ret2
  exact ⟨rfl, next (step (Below.refl _ _) _) hb⟩
set_option maxHeartbeats 1000000 in
theorem meant_4 (s t u : ByteArray) (n m : Int) (S : ByteArray) (E : Int) (H : CallT 36 #[.string s, .int .i64 n, .int .i64 m] (.tuple #[.string S, .int .i64 E])) : CallT 19 #[opV 4 s t u n m] (.tuple #[.string S, .int .i64 E]) := by
  intro w hT
  replace hT := hide (hT.alloc (opO 4 s t u n m))
  go_enter Tryd.func19, Tryd.ntmps19
  go_wp2_with fail
  refine (H.out _ hT.out).mono ?_
  rintro e w1 ⟨rfl, hb⟩
  go_wp2_with fail
  go_ret2
  exact ⟨rfl, next (step (Below.refl _ _) _) hb⟩
set_option maxHeartbeats 1000000 in
theorem meant_5 (s t u : ByteArray) (n m : Int) (S : ByteArray) (H : CallT 37 #[.string s] (.string S)) : CallT 19 #[opV 5 s t u n m] (.tuple #[.string S, .int .i64 0]) := by
  intro w hT
  replace hT := hide (hT.alloc (opO 5 s t u n m))
  go_enter Tryd.func19, Tryd.ntmps19
  go_wp2_with fail
  refine (H.out _ hT.out).mono ?_
  rintro e w1 ⟨rfl, hb⟩
  go_wp2_with fail
  go_ret2
  exact ⟨rfl, next (step (Below.refl _ _) _) hb⟩
set_option maxHeartbeats 1000000 in
theorem meant_6 (s t u : ByteArray) (n m : Int) (S : ByteArray) (H : CallT 38 #[.string s] (.string S)) : CallT 19 #[opV 6 s t u n m] (.tuple #[.string S, .int .i64 0]) := by
  intro w hT
  replace hT := hide (hT.alloc (opO 6 s t u n m))
  go_enter Tryd.func19, Tryd.ntmps19
  go_wp2_with fail
  refine (H.out _ hT.out).mono ?_
  rintro e w1 ⟨rfl, hb⟩
  go_wp2_with fail
  go_ret2
  exact ⟨rfl, next (step (Below.refl _ _) _) hb⟩
set_option maxHeartbeats 1000000 in
theorem meant_7 (s t u : ByteArray) (n m : Int) (S : ByteArray) (H : CallT 39 #[.string s] (.string S)) : CallT 19 #[opV 7 s t u n m] (.tuple #[.string S, .int .i64 0]) := by
  intro w hT
  replace hT := hide (hT.alloc (opO 7 s t u n m))
  go_enter Tryd.func19, Tryd.ntmps19
  go_wp2_with fail
  refine (H.out _ hT.out).mono ?_
  rintro e w1 ⟨rfl, hb⟩
  go_wp2_with fail
  go_ret2
  exact ⟨rfl, next (step (Below.refl _ _) _) hb⟩
set_option maxHeartbeats 1000000 in
theorem meant_8 (s t u : ByteArray) (n m : Int) (S : ByteArray) (H : CallT 40 #[.string s] (.string S)) : CallT 19 #[opV 8 s t u n m] (.tuple #[.string S, .int .i64 0]) := by
  intro w hT
  replace hT := hide (hT.alloc (opO 8 s t u n m))
  go_enter Tryd.func19, Tryd.ntmps19
  go_wp2_with fail
  refine (H.out _ hT.out).mono ?_
  rintro e w1 ⟨rfl, hb⟩
  go_wp2_with fail
  go_ret2
  exact ⟨rfl, next (step (Below.refl _ _) _) hb⟩
set_option maxHeartbeats 1000000 in
theorem meant_10 (s t u : ByteArray) (n m : Int) (S : ByteArray) (E : Int) (H : CallT 41 #[.string s, .string t, .string u] (.tuple #[.string S, .int .i64 E])) : CallT 19 #[opV 10 s t u n m] (.tuple #[.string S, .int .i64 E]) := by
  intro w hT
  replace hT := hide (hT.alloc (opO 10 s t u n m))
  go_enter Tryd.func19, Tryd.ntmps19
  go_wp2_with fail
  refine (H.out _ hT.out).mono ?_
  rintro e w1 ⟨rfl, hb⟩
  go_wp2_with fail
  go_ret2
  exact ⟨rfl, next (step (Below.refl _ _) _) hb⟩
set_option maxHeartbeats 1000000 in
theorem meant_11 (s t u : ByteArray) (n m : Int) (S : ByteArray) (E : Int) (H : CallT 42 #[.string s, .int .i64 n] (.tuple #[.string S, .int .i64 E])) : CallT 19 #[opV 11 s t u n m] (.tuple #[.string S, .int .i64 E]) := by
  intro w hT
  replace hT := hide (hT.alloc (opO 11 s t u n m))
  go_enter Tryd.func19, Tryd.ntmps19
  go_wp2_with fail
  refine (H.out _ hT.out).mono ?_
  rintro e w1 ⟨rfl, hb⟩
  go_wp2_with fail
  go_ret2
  exact ⟨rfl, next (step (Below.refl _ _) _) hb⟩
set_option maxHeartbeats 1000000 in
theorem meant_13 (s t u : ByteArray) (n m : Int) (S : ByteArray) (E : Int) (H : CallT 43 #[.int .i64 n] (.tuple #[.string S, .int .i64 E])) : CallT 19 #[opV 13 s t u n m] (.tuple #[.string S, .int .i64 E]) := by
  intro w hT
  replace hT := hide (hT.alloc (opO 13 s t u n m))
  go_enter Tryd.func19, Tryd.ntmps19
  go_wp2_with fail
  refine (H.out _ hT.out).mono ?_
  rintro e w1 ⟨rfl, hb⟩
  go_wp2_with fail
  go_ret2
  exact ⟨rfl, next (step (Below.refl _ _) _) hb⟩
end Go.Proofs.YtllbgjeibcaajaaDoor
