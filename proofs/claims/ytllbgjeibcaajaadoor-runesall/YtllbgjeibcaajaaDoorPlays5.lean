/- The law's own plays returns true for every call: proved of the Go text, the callees by their contracts. -/
import Derived.Test.YtllbgjeibcaajaaDoorCut5
import Derived.Test.YtllbgjeibcaajaaDoorPairs5
import Derived.Test.YtllbgjeibcaajaaDoorGoes5
namespace Go.Proofs.YtllbgjeibcaajaaDoor
open Go.RowKit Go.Sort
set_option linter.unusedVariables false

set_option maxHeartbeats 4000000 in
set_option maxRecDepth 100000 in
theorem plays_2 (s t u : ByteArray) (n m : Int) (hn : n ≤ 9223372036854775807) : CallT 5 #[opV 2 s t u n m] (.bool true) := by
  intro w hT
  have H1 := short_still s
  have H2 := short_still t
  have H3 := short_still u
  obtain ⟨X, E, P1, P2⟩ := pair_2 (sh s) (sh t) (sh u) n m (sh_size s) hn
  replace hn := hide hn
  have zs := hide (sh_size s)
  generalize sh s = S at *
  generalize sh t = T at *
  generalize sh u = U at *
  replace hT := hide hT
  go_enter Tryd.func5, Tryd.ntmps5
  try simp only [List.append]
  go_wp2_with fail
  refine cut_region 2 n m s t u S T U w H1 H2 H3 _ _ _ _ _ _ _ _ _ _ _ _ _ _ _ _ _ _ _ _ _ _ _ _ _ _ _ _ _ _ _ _ _ _ _ _ _ _ _ _ _ _ _ _ _ _ _ _ _ _ _ _ _ _ _ _ _ _ _ _ _ _ _ _ _ _ _ _ _ _ _ _ _ _ _ _ _ _ _ _ _ _ _ _ _ _ _ _ _ _ _ _ _ _ _ _ _ _ _ _ _ _ _ _ _ _ _ _ _ _ _ _ _ _ _ _ _ _ _ _ _ _ _ _ ?_
  intro w1 hO hB
  have T1 := hide (hT.out.keep hB)
  obtain ⟨d0, d1, d2, d3, d4, d5⟩ := hO.cells
  replace hO := hide hO
  replace hB := hide hB
  go_wp2_with fail
  refine (P1.out _ T1.out).mono ?_
  rintro e w2 ⟨rfl, hb2⟩
  have T2 := hide (T1.out.keep hb2)
  have B2 := hide (next hB.out hb2)
  have hO2 := hO.out.keep hb2
  obtain ⟨e0, e1, e2, e3, e4, e5⟩ := OpAt.cells hO2
  replace hO2 := hide hO2
  replace hb2 := hide hb2
  clear d0 d1 d2 d3 d4 d5
  go_wp2_with fail
  refine (P2.out _ T2.out).mono ?_
  rintro e w3 ⟨rfl, hb3⟩
  clear e0 e1 e2 e3 e4 e5
  have B3 := hide (next B2.out hb3)
  replace hb3 := hide hb3
  go_wp2_with fail
  go_ret
  exact ⟨rfl, B3.out⟩
set_option maxHeartbeats 4000000 in
set_option maxRecDepth 100000 in
theorem plays_3 (s t u : ByteArray) (n m : Int) (hn : n ≤ 9223372036854775807) : CallT 5 #[opV 3 s t u n m] (.bool true) := by
  intro w hT
  have H1 := short_still s
  have H2 := short_still t
  have H3 := short_still u
  obtain ⟨X, E, P1, P2⟩ := pair_3 (sh s) (sh t) (sh u) n m (sh_size s) hn
  replace hn := hide hn
  have zs := hide (sh_size s)
  generalize sh s = S at *
  generalize sh t = T at *
  generalize sh u = U at *
  replace hT := hide hT
  go_enter Tryd.func5, Tryd.ntmps5
  try simp only [List.append]
  go_wp2_with fail
  refine cut_region 3 n m s t u S T U w H1 H2 H3 _ _ _ _ _ _ _ _ _ _ _ _ _ _ _ _ _ _ _ _ _ _ _ _ _ _ _ _ _ _ _ _ _ _ _ _ _ _ _ _ _ _ _ _ _ _ _ _ _ _ _ _ _ _ _ _ _ _ _ _ _ _ _ _ _ _ _ _ _ _ _ _ _ _ _ _ _ _ _ _ _ _ _ _ _ _ _ _ _ _ _ _ _ _ _ _ _ _ _ _ _ _ _ _ _ _ _ _ _ _ _ _ _ _ _ _ _ _ _ _ _ _ _ _ ?_
  intro w1 hO hB
  have T1 := hide (hT.out.keep hB)
  obtain ⟨d0, d1, d2, d3, d4, d5⟩ := hO.cells
  replace hO := hide hO
  replace hB := hide hB
  go_wp2_with fail
  refine (P1.out _ T1.out).mono ?_
  rintro e w2 ⟨rfl, hb2⟩
  have T2 := hide (T1.out.keep hb2)
  have B2 := hide (next hB.out hb2)
  have hO2 := hO.out.keep hb2
  obtain ⟨e0, e1, e2, e3, e4, e5⟩ := OpAt.cells hO2
  replace hO2 := hide hO2
  replace hb2 := hide hb2
  clear d0 d1 d2 d3 d4 d5
  go_wp2_with fail
  refine (P2.out _ T2.out).mono ?_
  rintro e w3 ⟨rfl, hb3⟩
  clear e0 e1 e2 e3 e4 e5
  have B3 := hide (next B2.out hb3)
  replace hb3 := hide hb3
  go_wp2_with fail
  go_ret
  exact ⟨rfl, B3.out⟩
set_option maxHeartbeats 4000000 in
set_option maxRecDepth 100000 in
theorem plays_4 (s t u : ByteArray) (n m : Int) (hn : n ≤ 9223372036854775807) (hm : m ≤ 9223372036854775807) : CallT 5 #[opV 4 s t u n m] (.bool true) := by
  intro w hT
  have H1 := short_still s
  have H2 := short_still t
  have H3 := short_still u
  obtain ⟨X, E, P1, P2⟩ := pair_4 (sh s) (sh t) (sh u) n m (sh_size s) hn hm
  replace hn := hide hn
  replace hm := hide hm
  have zs := hide (sh_size s)
  generalize sh s = S at *
  generalize sh t = T at *
  generalize sh u = U at *
  replace hT := hide hT
  go_enter Tryd.func5, Tryd.ntmps5
  try simp only [List.append]
  go_wp2_with fail
  refine cut_region 4 n m s t u S T U w H1 H2 H3 _ _ _ _ _ _ _ _ _ _ _ _ _ _ _ _ _ _ _ _ _ _ _ _ _ _ _ _ _ _ _ _ _ _ _ _ _ _ _ _ _ _ _ _ _ _ _ _ _ _ _ _ _ _ _ _ _ _ _ _ _ _ _ _ _ _ _ _ _ _ _ _ _ _ _ _ _ _ _ _ _ _ _ _ _ _ _ _ _ _ _ _ _ _ _ _ _ _ _ _ _ _ _ _ _ _ _ _ _ _ _ _ _ _ _ _ _ _ _ _ _ _ _ _ ?_
  intro w1 hO hB
  have T1 := hide (hT.out.keep hB)
  obtain ⟨d0, d1, d2, d3, d4, d5⟩ := hO.cells
  replace hO := hide hO
  replace hB := hide hB
  go_wp2_with fail
  refine (P1.out _ T1.out).mono ?_
  rintro e w2 ⟨rfl, hb2⟩
  have T2 := hide (T1.out.keep hb2)
  have B2 := hide (next hB.out hb2)
  have hO2 := hO.out.keep hb2
  obtain ⟨e0, e1, e2, e3, e4, e5⟩ := OpAt.cells hO2
  replace hO2 := hide hO2
  replace hb2 := hide hb2
  clear d0 d1 d2 d3 d4 d5
  go_wp2_with fail
  refine (P2.out _ T2.out).mono ?_
  rintro e w3 ⟨rfl, hb3⟩
  clear e0 e1 e2 e3 e4 e5
  have B3 := hide (next B2.out hb3)
  replace hb3 := hide hb3
  go_wp2_with fail
  go_ret
  exact ⟨rfl, B3.out⟩
set_option maxHeartbeats 4000000 in
set_option maxRecDepth 100000 in
theorem plays_5 (s t u : ByteArray) (n m : Int) : CallT 5 #[opV 5 s t u n m] (.bool true) := by
  intro w hT
  have H1 := short_still s
  have H2 := short_still t
  have H3 := short_still u
  obtain ⟨X, E, P1, P2⟩ := pair_5 (sh s) (sh t) (sh u) n m (sh_size s)
  have zs := hide (sh_size s)
  generalize sh s = S at *
  generalize sh t = T at *
  generalize sh u = U at *
  replace hT := hide hT
  go_enter Tryd.func5, Tryd.ntmps5
  try simp only [List.append]
  go_wp2_with fail
  refine cut_region 5 n m s t u S T U w H1 H2 H3 _ _ _ _ _ _ _ _ _ _ _ _ _ _ _ _ _ _ _ _ _ _ _ _ _ _ _ _ _ _ _ _ _ _ _ _ _ _ _ _ _ _ _ _ _ _ _ _ _ _ _ _ _ _ _ _ _ _ _ _ _ _ _ _ _ _ _ _ _ _ _ _ _ _ _ _ _ _ _ _ _ _ _ _ _ _ _ _ _ _ _ _ _ _ _ _ _ _ _ _ _ _ _ _ _ _ _ _ _ _ _ _ _ _ _ _ _ _ _ _ _ _ _ _ ?_
  intro w1 hO hB
  have T1 := hide (hT.out.keep hB)
  obtain ⟨d0, d1, d2, d3, d4, d5⟩ := hO.cells
  replace hO := hide hO
  replace hB := hide hB
  go_wp2_with fail
  refine (P1.out _ T1.out).mono ?_
  rintro e w2 ⟨rfl, hb2⟩
  have T2 := hide (T1.out.keep hb2)
  have B2 := hide (next hB.out hb2)
  have hO2 := hO.out.keep hb2
  obtain ⟨e0, e1, e2, e3, e4, e5⟩ := OpAt.cells hO2
  replace hO2 := hide hO2
  replace hb2 := hide hb2
  clear d0 d1 d2 d3 d4 d5
  go_wp2_with fail
  refine (P2.out _ T2.out).mono ?_
  rintro e w3 ⟨rfl, hb3⟩
  clear e0 e1 e2 e3 e4 e5
  have B3 := hide (next B2.out hb3)
  replace hb3 := hide hb3
  go_wp2_with fail
  go_ret
  exact ⟨rfl, B3.out⟩
set_option maxHeartbeats 4000000 in
set_option maxRecDepth 100000 in
theorem plays_6 (s t u : ByteArray) (n m : Int) : CallT 5 #[opV 6 s t u n m] (.bool true) := by
  intro w hT
  have H1 := short_still s
  have H2 := short_still t
  have H3 := short_still u
  obtain ⟨X, E, P1, P2⟩ := pair_6 (sh s) (sh t) (sh u) n m (sh_size s)
  have zs := hide (sh_size s)
  generalize sh s = S at *
  generalize sh t = T at *
  generalize sh u = U at *
  replace hT := hide hT
  go_enter Tryd.func5, Tryd.ntmps5
  try simp only [List.append]
  go_wp2_with fail
  refine cut_region 6 n m s t u S T U w H1 H2 H3 _ _ _ _ _ _ _ _ _ _ _ _ _ _ _ _ _ _ _ _ _ _ _ _ _ _ _ _ _ _ _ _ _ _ _ _ _ _ _ _ _ _ _ _ _ _ _ _ _ _ _ _ _ _ _ _ _ _ _ _ _ _ _ _ _ _ _ _ _ _ _ _ _ _ _ _ _ _ _ _ _ _ _ _ _ _ _ _ _ _ _ _ _ _ _ _ _ _ _ _ _ _ _ _ _ _ _ _ _ _ _ _ _ _ _ _ _ _ _ _ _ _ _ _ ?_
  intro w1 hO hB
  have T1 := hide (hT.out.keep hB)
  obtain ⟨d0, d1, d2, d3, d4, d5⟩ := hO.cells
  replace hO := hide hO
  replace hB := hide hB
  go_wp2_with fail
  refine (P1.out _ T1.out).mono ?_
  rintro e w2 ⟨rfl, hb2⟩
  have T2 := hide (T1.out.keep hb2)
  have B2 := hide (next hB.out hb2)
  have hO2 := hO.out.keep hb2
  obtain ⟨e0, e1, e2, e3, e4, e5⟩ := OpAt.cells hO2
  replace hO2 := hide hO2
  replace hb2 := hide hb2
  clear d0 d1 d2 d3 d4 d5
  go_wp2_with fail
  refine (P2.out _ T2.out).mono ?_
  rintro e w3 ⟨rfl, hb3⟩
  clear e0 e1 e2 e3 e4 e5
  have B3 := hide (next B2.out hb3)
  replace hb3 := hide hb3
  go_wp2_with fail
  go_ret
  exact ⟨rfl, B3.out⟩
set_option maxHeartbeats 4000000 in
set_option maxRecDepth 100000 in
theorem plays_7 (s t u : ByteArray) (n m : Int) : CallT 5 #[opV 7 s t u n m] (.bool true) := by
  intro w hT
  have H1 := short_still s
  have H2 := short_still t
  have H3 := short_still u
  obtain ⟨X, E, P1, P2⟩ := pair_7 (sh s) (sh t) (sh u) n m (sh_size s)
  have zs := hide (sh_size s)
  generalize sh s = S at *
  generalize sh t = T at *
  generalize sh u = U at *
  replace hT := hide hT
  go_enter Tryd.func5, Tryd.ntmps5
  try simp only [List.append]
  go_wp2_with fail
  refine cut_region 7 n m s t u S T U w H1 H2 H3 _ _ _ _ _ _ _ _ _ _ _ _ _ _ _ _ _ _ _ _ _ _ _ _ _ _ _ _ _ _ _ _ _ _ _ _ _ _ _ _ _ _ _ _ _ _ _ _ _ _ _ _ _ _ _ _ _ _ _ _ _ _ _ _ _ _ _ _ _ _ _ _ _ _ _ _ _ _ _ _ _ _ _ _ _ _ _ _ _ _ _ _ _ _ _ _ _ _ _ _ _ _ _ _ _ _ _ _ _ _ _ _ _ _ _ _ _ _ _ _ _ _ _ _ ?_
  intro w1 hO hB
  have T1 := hide (hT.out.keep hB)
  obtain ⟨d0, d1, d2, d3, d4, d5⟩ := hO.cells
  replace hO := hide hO
  replace hB := hide hB
  go_wp2_with fail
  refine (P1.out _ T1.out).mono ?_
  rintro e w2 ⟨rfl, hb2⟩
  have T2 := hide (T1.out.keep hb2)
  have B2 := hide (next hB.out hb2)
  have hO2 := hO.out.keep hb2
  obtain ⟨e0, e1, e2, e3, e4, e5⟩ := OpAt.cells hO2
  replace hO2 := hide hO2
  replace hb2 := hide hb2
  clear d0 d1 d2 d3 d4 d5
  go_wp2_with fail
  refine (P2.out _ T2.out).mono ?_
  rintro e w3 ⟨rfl, hb3⟩
  clear e0 e1 e2 e3 e4 e5
  have B3 := hide (next B2.out hb3)
  replace hb3 := hide hb3
  go_wp2_with fail
  go_ret
  exact ⟨rfl, B3.out⟩
set_option maxHeartbeats 4000000 in
set_option maxRecDepth 100000 in
theorem plays_8 (s t u : ByteArray) (n m : Int) : CallT 5 #[opV 8 s t u n m] (.bool true) := by
  intro w hT
  have H1 := short_still s
  have H2 := short_still t
  have H3 := short_still u
  obtain ⟨X, E, P1, P2⟩ := pair_8 (sh s) (sh t) (sh u) n m (sh_size s)
  have zs := hide (sh_size s)
  generalize sh s = S at *
  generalize sh t = T at *
  generalize sh u = U at *
  replace hT := hide hT
  go_enter Tryd.func5, Tryd.ntmps5
  try simp only [List.append]
  go_wp2_with fail
  refine cut_region 8 n m s t u S T U w H1 H2 H3 _ _ _ _ _ _ _ _ _ _ _ _ _ _ _ _ _ _ _ _ _ _ _ _ _ _ _ _ _ _ _ _ _ _ _ _ _ _ _ _ _ _ _ _ _ _ _ _ _ _ _ _ _ _ _ _ _ _ _ _ _ _ _ _ _ _ _ _ _ _ _ _ _ _ _ _ _ _ _ _ _ _ _ _ _ _ _ _ _ _ _ _ _ _ _ _ _ _ _ _ _ _ _ _ _ _ _ _ _ _ _ _ _ _ _ _ _ _ _ _ _ _ _ _ ?_
  intro w1 hO hB
  have T1 := hide (hT.out.keep hB)
  obtain ⟨d0, d1, d2, d3, d4, d5⟩ := hO.cells
  replace hO := hide hO
  replace hB := hide hB
  go_wp2_with fail
  refine (P1.out _ T1.out).mono ?_
  rintro e w2 ⟨rfl, hb2⟩
  have T2 := hide (T1.out.keep hb2)
  have B2 := hide (next hB.out hb2)
  have hO2 := hO.out.keep hb2
  obtain ⟨e0, e1, e2, e3, e4, e5⟩ := OpAt.cells hO2
  replace hO2 := hide hO2
  replace hb2 := hide hb2
  clear d0 d1 d2 d3 d4 d5
  go_wp2_with fail
  refine (P2.out _ T2.out).mono ?_
  rintro e w3 ⟨rfl, hb3⟩
  clear e0 e1 e2 e3 e4 e5
  have B3 := hide (next B2.out hb3)
  replace hb3 := hide hb3
  go_wp2_with fail
  go_ret
  exact ⟨rfl, B3.out⟩
set_option maxHeartbeats 4000000 in
set_option maxRecDepth 100000 in
theorem plays_10 (s t u : ByteArray) (n m : Int) : CallT 5 #[opV 10 s t u n m] (.bool true) := by
  intro w hT
  have H1 := short_still s
  have H2 := short_still t
  have H3 := short_still u
  obtain ⟨X, E, P1, P2⟩ := pair_10 (sh s) (sh t) (sh u) n m (sh_size s) (sh_size t) (sh_size u)
  have zs := hide (sh_size s)
  generalize sh s = S at *
  generalize sh t = T at *
  generalize sh u = U at *
  replace hT := hide hT
  go_enter Tryd.func5, Tryd.ntmps5
  try simp only [List.append]
  go_wp2_with fail
  refine cut_region 10 n m s t u S T U w H1 H2 H3 _ _ _ _ _ _ _ _ _ _ _ _ _ _ _ _ _ _ _ _ _ _ _ _ _ _ _ _ _ _ _ _ _ _ _ _ _ _ _ _ _ _ _ _ _ _ _ _ _ _ _ _ _ _ _ _ _ _ _ _ _ _ _ _ _ _ _ _ _ _ _ _ _ _ _ _ _ _ _ _ _ _ _ _ _ _ _ _ _ _ _ _ _ _ _ _ _ _ _ _ _ _ _ _ _ _ _ _ _ _ _ _ _ _ _ _ _ _ _ _ _ _ _ _ ?_
  intro w1 hO hB
  have T1 := hide (hT.out.keep hB)
  obtain ⟨d0, d1, d2, d3, d4, d5⟩ := hO.cells
  replace hO := hide hO
  replace hB := hide hB
  go_wp2_with fail
  refine (P1.out _ T1.out).mono ?_
  rintro e w2 ⟨rfl, hb2⟩
  have T2 := hide (T1.out.keep hb2)
  have B2 := hide (next hB.out hb2)
  have hO2 := hO.out.keep hb2
  obtain ⟨e0, e1, e2, e3, e4, e5⟩ := OpAt.cells hO2
  replace hO2 := hide hO2
  replace hb2 := hide hb2
  clear d0 d1 d2 d3 d4 d5
  go_wp2_with fail
  refine (P2.out _ T2.out).mono ?_
  rintro e w3 ⟨rfl, hb3⟩
  clear e0 e1 e2 e3 e4 e5
  have B3 := hide (next B2.out hb3)
  replace hb3 := hide hb3
  go_wp2_with fail
  go_ret
  exact ⟨rfl, B3.out⟩
set_option maxHeartbeats 4000000 in
set_option maxRecDepth 100000 in
theorem plays_11 (s t u : ByteArray) (n m : Int) : CallT 5 #[opV 11 s t u n m] (.bool true) := by
  intro w hT
  have H1 := short_still s
  have H2 := short_still t
  have H3 := short_still u
  obtain ⟨X, E, P1, P2⟩ := pair_11 (sh s) (sh t) (sh u) n m 
  have zs := hide (sh_size s)
  generalize sh s = S at *
  generalize sh t = T at *
  generalize sh u = U at *
  replace hT := hide hT
  go_enter Tryd.func5, Tryd.ntmps5
  try simp only [List.append]
  go_wp2_with fail
  refine cut_region 11 n m s t u S T U w H1 H2 H3 _ _ _ _ _ _ _ _ _ _ _ _ _ _ _ _ _ _ _ _ _ _ _ _ _ _ _ _ _ _ _ _ _ _ _ _ _ _ _ _ _ _ _ _ _ _ _ _ _ _ _ _ _ _ _ _ _ _ _ _ _ _ _ _ _ _ _ _ _ _ _ _ _ _ _ _ _ _ _ _ _ _ _ _ _ _ _ _ _ _ _ _ _ _ _ _ _ _ _ _ _ _ _ _ _ _ _ _ _ _ _ _ _ _ _ _ _ _ _ _ _ _ _ _ ?_
  intro w1 hO hB
  have T1 := hide (hT.out.keep hB)
  obtain ⟨d0, d1, d2, d3, d4, d5⟩ := hO.cells
  replace hO := hide hO
  replace hB := hide hB
  go_wp2_with fail
  refine (P1.out _ T1.out).mono ?_
  rintro e w2 ⟨rfl, hb2⟩
  have T2 := hide (T1.out.keep hb2)
  have B2 := hide (next hB.out hb2)
  have hO2 := hO.out.keep hb2
  obtain ⟨e0, e1, e2, e3, e4, e5⟩ := OpAt.cells hO2
  replace hO2 := hide hO2
  replace hb2 := hide hb2
  clear d0 d1 d2 d3 d4 d5
  go_wp2_with fail
  refine (P2.out _ T2.out).mono ?_
  rintro e w3 ⟨rfl, hb3⟩
  clear e0 e1 e2 e3 e4 e5
  have B3 := hide (next B2.out hb3)
  replace hb3 := hide hb3
  go_wp2_with fail
  go_ret
  exact ⟨rfl, B3.out⟩
set_option maxHeartbeats 4000000 in
set_option maxRecDepth 100000 in
theorem plays_13 (s t u : ByteArray) (n m : Int) : CallT 5 #[opV 13 s t u n m] (.bool true) := by
  intro w hT
  have H1 := short_still s
  have H2 := short_still t
  have H3 := short_still u
  obtain ⟨X, E, P1, P2⟩ := pair_13 (sh s) (sh t) (sh u) n m 
  have zs := hide (sh_size s)
  generalize sh s = S at *
  generalize sh t = T at *
  generalize sh u = U at *
  replace hT := hide hT
  go_enter Tryd.func5, Tryd.ntmps5
  try simp only [List.append]
  go_wp2_with fail
  refine cut_region 13 n m s t u S T U w H1 H2 H3 _ _ _ _ _ _ _ _ _ _ _ _ _ _ _ _ _ _ _ _ _ _ _ _ _ _ _ _ _ _ _ _ _ _ _ _ _ _ _ _ _ _ _ _ _ _ _ _ _ _ _ _ _ _ _ _ _ _ _ _ _ _ _ _ _ _ _ _ _ _ _ _ _ _ _ _ _ _ _ _ _ _ _ _ _ _ _ _ _ _ _ _ _ _ _ _ _ _ _ _ _ _ _ _ _ _ _ _ _ _ _ _ _ _ _ _ _ _ _ _ _ _ _ _ ?_
  intro w1 hO hB
  have T1 := hide (hT.out.keep hB)
  obtain ⟨d0, d1, d2, d3, d4, d5⟩ := hO.cells
  replace hO := hide hO
  replace hB := hide hB
  go_wp2_with fail
  refine (P1.out _ T1.out).mono ?_
  rintro e w2 ⟨rfl, hb2⟩
  have T2 := hide (T1.out.keep hb2)
  have B2 := hide (next hB.out hb2)
  have hO2 := hO.out.keep hb2
  obtain ⟨e0, e1, e2, e3, e4, e5⟩ := OpAt.cells hO2
  replace hO2 := hide hO2
  replace hb2 := hide hb2
  clear d0 d1 d2 d3 d4 d5
  go_wp2_with fail
  refine (P2.out _ T2.out).mono ?_
  rintro e w3 ⟨rfl, hb3⟩
  clear e0 e1 e2 e3 e4 e5
  have B3 := hide (next B2.out hb3)
  replace hb3 := hide hb3
  go_wp2_with fail
  go_ret
  exact ⟨rfl, B3.out⟩
set_option maxHeartbeats 4000000 in
set_option maxRecDepth 100000 in
theorem plays_9 (s t u : ByteArray) (n m : Int) : CallT 5 #[opV 9 s t u n m] (.bool true) := by
  intro w hT
  have H1 := short_still s
  have H2 := short_still t
  have H3 := short_still u
  obtain ⟨X, E, P1, P2⟩ := pair_9 (sh s) (sh t) n (sh_size s)
  have zs := hide (sh_size s)
  generalize sh s = S at *
  generalize sh t = T at *
  generalize sh u = U at *
  replace hT := hide hT
  go_enter Tryd.func5, Tryd.ntmps5
  try simp only [List.append]
  go_wp2_with fail
  refine cut_region 9 n m s t u S T U w H1 H2 H3 _ _ _ _ _ _ _ _ _ _ _ _ _ _ _ _ _ _ _ _ _ _ _ _ _ _ _ _ _ _ _ _ _ _ _ _ _ _ _ _ _ _ _ _ _ _ _ _ _ _ _ _ _ _ _ _ _ _ _ _ _ _ _ _ _ _ _ _ _ _ _ _ _ _ _ _ _ _ _ _ _ _ _ _ _ _ _ _ _ _ _ _ _ _ _ _ _ _ _ _ _ _ _ _ _ _ _ _ _ _ _ _ _ _ _ _ _ _ _ _ _ _ _ _ ?_
  intro w1 hO hB
  have T1 := hide (hT.out.keep hB)
  obtain ⟨d0, d1, d2, d3, d4, d5⟩ := hO.cells
  replace hO := hide hO
  replace hB := hide hB
  go_wp2_with fail
  refine (P1.out _ T1.out).mono ?_
  rintro e w2 ⟨rfl, hb2⟩
  have T2 := hide (T1.out.keep hb2)
  have B2 := hide (next hB.out hb2)
  have hO2 := hO.out.keep hb2
  obtain ⟨e0, e1, e2, e3, e4, e5⟩ := OpAt.cells hO2
  replace hO2 := hide hO2
  replace hb2 := hide hb2
  clear d0 d1 d2 d3 d4 d5
  go_wp2_with fail
  refine (P2.out _ T2.out).mono ?_
  rintro e w3 ⟨rfl, hb3⟩
  clear e0 e1 e2 e3 e4 e5
  have B3 := hide (next B2.out hb3)
  replace hb3 := hide hb3
  go_wp2_with fail
  go_ret
  exact ⟨rfl, B3.out⟩
set_option maxHeartbeats 4000000 in
set_option maxRecDepth 100000 in
theorem plays_12 (s t u : ByteArray) (n m : Int) : CallT 5 #[opV 12 s t u n m] (.bool true) := by
  intro w hT
  have H1 := short_still s
  have H2 := short_still t
  have H3 := short_still u
  obtain ⟨X, E, P1, P2⟩ := pair_12 (sh s) (sh_size s)
  have zs := hide (sh_size s)
  generalize sh s = S at *
  generalize sh t = T at *
  generalize sh u = U at *
  replace hT := hide hT
  go_enter Tryd.func5, Tryd.ntmps5
  try simp only [List.append]
  go_wp2_with fail
  refine cut_region 12 n m s t u S T U w H1 H2 H3 _ _ _ _ _ _ _ _ _ _ _ _ _ _ _ _ _ _ _ _ _ _ _ _ _ _ _ _ _ _ _ _ _ _ _ _ _ _ _ _ _ _ _ _ _ _ _ _ _ _ _ _ _ _ _ _ _ _ _ _ _ _ _ _ _ _ _ _ _ _ _ _ _ _ _ _ _ _ _ _ _ _ _ _ _ _ _ _ _ _ _ _ _ _ _ _ _ _ _ _ _ _ _ _ _ _ _ _ _ _ _ _ _ _ _ _ _ _ _ _ _ _ _ _ ?_
  intro w1 hO hB
  have T1 := hide (hT.out.keep hB)
  obtain ⟨d0, d1, d2, d3, d4, d5⟩ := hO.cells
  replace hO := hide hO
  replace hB := hide hB
  go_wp2_with fail
  refine (P1.out _ T1.out).mono ?_
  rintro e w2 ⟨rfl, hb2⟩
  have T2 := hide (T1.out.keep hb2)
  have B2 := hide (next hB.out hb2)
  have hO2 := hO.out.keep hb2
  obtain ⟨e0, e1, e2, e3, e4, e5⟩ := OpAt.cells hO2
  replace hO2 := hide hO2
  replace hb2 := hide hb2
  clear d0 d1 d2 d3 d4 d5
  go_wp2_with fail
  refine (P2.out _ T2.out).mono ?_
  rintro e w3 ⟨rfl, hb3⟩
  clear e0 e1 e2 e3 e4 e5
  have B3 := hide (next B2.out hb3)
  replace hb3 := hide hb3
  go_wp2_with fail
  go_ret
  exact ⟨rfl, B3.out⟩
set_option maxHeartbeats 4000000 in
set_option maxRecDepth 100000 in
theorem plays_14 (s t u : ByteArray) (n m : Int) : CallT 5 #[opV 14 s t u n m] (.bool true) := by
  intro w hT
  have H1 := short_still s
  have H2 := short_still t
  have H3 := short_still u
  have P1 := (goes_any (sh s) n (sh_size s)).t
  have zs := hide (sh_size s)
  generalize sh s = S at *
  generalize sh t = T at *
  generalize sh u = U at *
  replace hT := hide hT
  go_enter Tryd.func5, Tryd.ntmps5
  try simp only [List.append]
  go_wp2_with fail
  refine cut_region 14 n m s t u S T U w H1 H2 H3 _ _ _ _ _ _ _ _ _ _ _ _ _ _ _ _ _ _ _ _ _ _ _ _ _ _ _ _ _ _ _ _ _ _ _ _ _ _ _ _ _ _ _ _ _ _ _ _ _ _ _ _ _ _ _ _ _ _ _ _ _ _ _ _ _ _ _ _ _ _ _ _ _ _ _ _ _ _ _ _ _ _ _ _ _ _ _ _ _ _ _ _ _ _ _ _ _ _ _ _ _ _ _ _ _ _ _ _ _ _ _ _ _ _ _ _ _ _ _ _ _ _ _ _ ?_
  intro w1 hO hB
  have T1 := hide (hT.out.keep hB)
  obtain ⟨d0, d1, d2, d3, d4, d5⟩ := hO.cells
  replace hO := hide hO
  replace hB := hide hB
  go_wp2_with fail
  refine (P1.out _ T1.out).mono ?_
  rintro e w2 ⟨rfl, hb2⟩
  have B2 := hide (next hB.out hb2)
  replace hb2 := hide hb2
  go_wp2_with fail
  go_ret
  exact ⟨rfl, B2.out⟩
set_option maxHeartbeats 4000000 in
set_option maxRecDepth 100000 in
theorem plays_low (k : Int) (s t u : ByteArray) (n m : Int) (h : k < 1) : CallT 5 #[opV k s t u n m] (.bool true) := by
  intro w hT
  have H1 := short_still s
  have H2 := short_still t
  have H3 := short_still u
  have q1 : (k == 1) = false := by rw [beq_eq_false_iff_ne]; omega
  have q2 : (k == 9) = false := by rw [beq_eq_false_iff_ne]; omega
  have q3 : (k == 12) = false := by rw [beq_eq_false_iff_ne]; omega
  have q4 : (k == 14) = false := by rw [beq_eq_false_iff_ne]; omega
  have zs := hide (sh_size s)
  generalize sh s = S at *
  generalize sh t = T at *
  generalize sh u = U at *
  replace hT := hide hT
  go_enter Tryd.func5, Tryd.ntmps5
  try simp only [List.append]
  go_wp2_with fail
  refine cut_region k n m s t u S T U w H1 H2 H3 _ _ _ _ _ _ _ _ _ _ _ _ _ _ _ _ _ _ _ _ _ _ _ _ _ _ _ _ _ _ _ _ _ _ _ _ _ _ _ _ _ _ _ _ _ _ _ _ _ _ _ _ _ _ _ _ _ _ _ _ _ _ _ _ _ _ _ _ _ _ _ _ _ _ _ _ _ _ _ _ _ _ _ _ _ _ _ _ _ _ _ _ _ _ _ _ _ _ _ _ _ _ _ _ _ _ _ _ _ _ _ _ _ _ _ _ _ _ _ _ _ _ _ _ ?_
  intro w1 hO hB
  have T1 := hide (hT.out.keep hB)
  obtain ⟨d0, d1, d2, d3, d4, d5⟩ := hO.cells
  replace hO := hide hO
  replace hB := hide hB
  go_wp2_with fail
  go_ret
  exact ⟨rfl, hB.out⟩
set_option maxHeartbeats 4000000 in
set_option maxRecDepth 100000 in
theorem plays_high (k : Int) (s t u : ByteArray) (n m : Int) (h : k > 14) : CallT 5 #[opV k s t u n m] (.bool true) := by
  intro w hT
  have H1 := short_still s
  have H2 := short_still t
  have H3 := short_still u
  have q1 : (k == 1) = false := by rw [beq_eq_false_iff_ne]; omega
  have q2 : (k == 9) = false := by rw [beq_eq_false_iff_ne]; omega
  have q3 : (k == 12) = false := by rw [beq_eq_false_iff_ne]; omega
  have q4 : (k == 14) = false := by rw [beq_eq_false_iff_ne]; omega
  have h' : ¬ k < 1 := by omega
  have zs := hide (sh_size s)
  generalize sh s = S at *
  generalize sh t = T at *
  generalize sh u = U at *
  replace hT := hide hT
  go_enter Tryd.func5, Tryd.ntmps5
  try simp only [List.append]
  go_wp2_with fail
  refine cut_region k n m s t u S T U w H1 H2 H3 _ _ _ _ _ _ _ _ _ _ _ _ _ _ _ _ _ _ _ _ _ _ _ _ _ _ _ _ _ _ _ _ _ _ _ _ _ _ _ _ _ _ _ _ _ _ _ _ _ _ _ _ _ _ _ _ _ _ _ _ _ _ _ _ _ _ _ _ _ _ _ _ _ _ _ _ _ _ _ _ _ _ _ _ _ _ _ _ _ _ _ _ _ _ _ _ _ _ _ _ _ _ _ _ _ _ _ _ _ _ _ _ _ _ _ _ _ _ _ _ _ _ _ _ ?_
  intro w1 hO hB
  have T1 := hide (hT.out.keep hB)
  obtain ⟨d0, d1, d2, d3, d4, d5⟩ := hO.cells
  replace hO := hide hO
  replace hB := hide hB
  go_wp2_with fail
  go_ret
  exact ⟨rfl, hB.out⟩
set_option maxHeartbeats 4000000 in
set_option maxRecDepth 100000 in
theorem plays_1 (s t u : ByteArray) (n m : Int) : CallT 5 #[opV 1 s t u n m] (.bool true) := by
  intro w hT
  have H1 := short_still s
  have H2 := short_still t
  have H3 := short_still u
  have P1 := len_any (sh s) (by have := sh_size s; omega)
  have P2 := rlen_any (sh s) (sh_size s)
  generalize rc (sh s) 0 = N at *
  have zs := hide (sh_size s)
  generalize sh s = S at *
  generalize sh t = T at *
  generalize sh u = U at *
  replace hT := hide hT
  go_enter Tryd.func5, Tryd.ntmps5
  try simp only [List.append]
  go_wp2_with fail
  refine cut_region 1 n m s t u S T U w H1 H2 H3 _ _ _ _ _ _ _ _ _ _ _ _ _ _ _ _ _ _ _ _ _ _ _ _ _ _ _ _ _ _ _ _ _ _ _ _ _ _ _ _ _ _ _ _ _ _ _ _ _ _ _ _ _ _ _ _ _ _ _ _ _ _ _ _ _ _ _ _ _ _ _ _ _ _ _ _ _ _ _ _ _ _ _ _ _ _ _ _ _ _ _ _ _ _ _ _ _ _ _ _ _ _ _ _ _ _ _ _ _ _ _ _ _ _ _ _ _ _ _ _ _ _ _ _ ?_
  intro w1 hO hB
  have T1 := hide (hT.out.keep hB)
  obtain ⟨d0, d1, d2, d3, d4, d5⟩ := hO.cells
  replace hO := hide hO
  replace hB := hide hB
  have m1 := cell_regrown d1
  have k1 := fun d' os => Calls.regrown_of (P1.out (grow (redrawn w1 d') os))
  have k2 := fun d' os => Calls.regrown_of (P2.out (grow (redrawn w1 d') os))
  go_wp2_with fail
  refine wp_region_quiet_below (by kernel_rfl) (by kernel_rfl) ?_
  repeat (go_big_quiet_step (first | (with_reducible exact k1 _ _) | (with_reducible exact k2 _ _)))
  refine wpQuiet_nil ?_
  intro _ hw'
  obtain ⟨⟨dq, osq⟩, hw''⟩ := hw'
  subst hw''
  go_wp2_with fail
  go_ret
  exact ⟨rfl, next hB.out (below_regrown _ dq osq)⟩
theorem plays_any (k : Int) (s t u : ByteArray) (n m : Int) (hn : -9223372036854775808 ≤ n ∧ n ≤ 9223372036854775807) (hm : -9223372036854775808 ≤ m ∧ m ≤ 9223372036854775807) : CallT 5 #[opV k s t u n m] (.bool true) := by
  by_cases h1 : k < 1
  · exact plays_low k s t u n m h1
  by_cases h2 : k > 14
  · exact plays_high k s t u n m h2
  rcases (show k = 1 ∨ k = 2 ∨ k = 3 ∨ k = 4 ∨ k = 5 ∨ k = 6 ∨ k = 7 ∨ k = 8 ∨ k = 9 ∨ k = 10 ∨ k = 11 ∨ k = 12 ∨ k = 13 ∨ k = 14 by omega) with rfl | rfl | rfl | rfl | rfl | rfl | rfl | rfl | rfl | rfl | rfl | rfl | rfl | rfl
  · exact plays_1 s t u n m
  · exact plays_2 s t u n m hn.2
  · exact plays_3 s t u n m hn.2
  · exact plays_4 s t u n m hn.2 hm.2
  · exact plays_5 s t u n m
  · exact plays_6 s t u n m
  · exact plays_7 s t u n m
  · exact plays_8 s t u n m
  · exact plays_9 s t u n m
  · exact plays_10 s t u n m
  · exact plays_11 s t u n m
  · exact plays_12 s t u n m
  · exact plays_13 s t u n m
  · exact plays_14 s t u n m
end Go.Proofs.YtllbgjeibcaajaaDoor
