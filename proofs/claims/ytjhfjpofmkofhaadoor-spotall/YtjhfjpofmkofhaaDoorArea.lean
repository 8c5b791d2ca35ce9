/- What spot.readCorner and spot.ReadArea answer, for every text: proved of the Go text. -/
import Derived.Test.YtjhfjpofmkofhaaDoorReadIt
namespace Go.Proofs.YtjhfjpofmkofhaaDoor
open Go.RowKit
set_option linter.unusedVariables false

set_option maxHeartbeats 1000000 in
theorem corner_colon (t : ByteArray) (w : World) (hs : t.size ≤ maxLen) (hp : 0 < t.size) (h : ((t[0].toNat : Int) != 58) = true) :
    Calls Tryd.prog 36 #[.string t] w fun e w' => e = .returned (.tuple #[refV 0 0 false false, .int .i64 20]) ∧ Below w.heap.size w w' := by
  unfold maxLen at hs
  go_enter Tryd.func36, Tryd.ntmps36
  go_wp2_with fail
  go_returns
  exact ⟨rfl, by go_grown⟩
set_option maxHeartbeats 1000000 in
theorem corner_short (t u : ByteArray) (w : World) (hs : t.size ≤ maxLen) (hp : 0 < t.size) (h : ((t[0].toNat : Int) != 58) = false) (hu : t.extract 1 t.size = u) (hn : 1 + rN u ≠ t.size) :
    Calls Tryd.prog 36 #[.string t] w fun e w' => e = .returned (.tuple #[refV 0 0 false false, .int .i64 20]) ∧ Below w.heap.size w w' := by
  have zu : u.size ≤ maxLen := by rw [← hu, ByteArray.size_extract]; omega
  have HR := hide (fun w => readRef_any u w zu)
  have ln := rN_le u
  have lu : u.size = t.size - 1 := by rw [← hu, ByteArray.size_extract]; omega
  unfold maxLen at hs
  have h1 : ((1 + (rN u : Int)) != t.size) = true := by rw [bne_iff_ne]; omega
  have h2 : (1 : Int) ≤ t.size := by omega
  clear zu hn
  generalize rE u = e at *
  generalize rN u = n at *
  generalize rR u = r at *
  generalize rC u = c at *
  generalize rP u = p at *
  generalize rQ u = q at *
  go_enter Tryd.func36, Tryd.ntmps36
  go_wp2_with fail
  refine (HR.out _).mono ?_
  rintro e w' ⟨rfl, rfl⟩
  go_wp2_with fail
  go_returns
  exact ⟨rfl, by go_grown⟩
set_option maxHeartbeats 1000000 in
theorem corner_good (t u : ByteArray) (w : World) (hs : t.size ≤ maxLen) (hp : 0 < t.size) (h : ((t[0].toNat : Int) != 58) = false) (hu : t.extract 1 t.size = u) (hn : 1 + rN u = t.size) :
    Calls Tryd.prog 36 #[.string t] w fun e w' => e = .returned (.tuple #[refV (rR u) (rC u) (rP u) (rQ u), .int .i64 (rE u)]) ∧ Below w.heap.size w w' := by
  have zu : u.size ≤ maxLen := by rw [← hu, ByteArray.size_extract]; omega
  have HR := hide (fun w => readRef_any u w zu)
  have ln := rN_le u
  have lu : u.size = t.size - 1 := by rw [← hu, ByteArray.size_extract]; omega
  unfold maxLen at hs
  have h1 : ((1 + (rN u : Int)) != t.size) = false := by rw [bne_eq_false_iff_eq]; omega
  have h2 : (1 : Int) ≤ t.size := by omega
  clear zu hn
  generalize rE u = e at *
  generalize rN u = n at *
  generalize rR u = r at *
  generalize rC u = c at *
  generalize rP u = p at *
  generalize rQ u = q at *
  go_enter Tryd.func36, Tryd.ntmps36
  go_wp2_with fail
  refine (HR.out _).mono ?_
  rintro e w' ⟨rfl, rfl⟩
  go_wp2_with fail
  go_returns
  exact ⟨rfl, by go_grown⟩
/- spot.ReadArea, way by way. -/

set_option maxHeartbeats 1000000 in
theorem area_syn (s : ByteArray) (w : World) (hs : s.size ≤ maxLen) (h1 : (rE s == 20) = true) :
    Calls Tryd.prog 17 #[.string s] w fun e w' => e = .returned (.tuple #[areaV 0 0 0 0, .int .i64 20]) ∧ Below w.heap.size w w' := by
  have HR := hide (fun w => readRef_any s w hs)
  unfold maxLen at hs
  have h1' : (rE s != 20) = false := by rw [bne, h1]; rfl
  generalize rE s = e at *
  generalize rN s = n at *
  generalize rR s = r at *
  generalize rC s = c at *
  generalize rP s = p at *
  generalize rQ s = q at *
  go_enter Tryd.func17, Tryd.ntmps17
  go_wp2_with fail
  refine (HR.out _).mono ?_
  rintro e w' ⟨rfl, rfl⟩
  go_wp2_with fail
  go_returns
  exact ⟨rfl, by go_grown⟩

set_option maxHeartbeats 1000000 in
theorem area_one_off (s : ByteArray) (w : World) (hs : s.size ≤ maxLen) (h1 : (rE s == 20) = false) (h2 : rN s = s.size) (h3 : (rE s != 0) = true) :
    Calls Tryd.prog 17 #[.string s] w fun e w' => e = .returned (.tuple #[areaV 0 0 0 0, .int .i64 10]) ∧ Below w.heap.size w w' := by
  have HR := hide (fun w => readRef_any s w hs)
  unfold maxLen at hs
  have h1' : (rE s != 20) = true := by rw [bne, h1]; rfl
  have h2' : ¬ (rN s : Int) < s.size := by omega
  clear h2
  generalize rE s = e at *
  generalize rN s = n at *
  generalize rR s = r at *
  generalize rC s = c at *
  generalize rP s = p at *
  generalize rQ s = q at *
  go_enter Tryd.func17, Tryd.ntmps17
  go_wp2_with fail
  refine (HR.out _).mono ?_
  rintro e w' ⟨rfl, rfl⟩
  go_wp2_with fail
  go_returns
  exact ⟨rfl, by go_grown⟩

set_option maxHeartbeats 1000000 in
theorem area_one (s : ByteArray) (w : World) (hs : s.size ≤ maxLen) (h1 : (rE s == 20) = false) (h2 : rN s = s.size) (h3 : (rE s != 0) = false) (a1 a2 a3 a4 e2 : Int) (HB : Hid (∀ w, Calls Tryd.prog 37 #[refV (rR s) (rC s) (rP s) (rQ s), refV (rR s) (rC s) (rP s) (rQ s)] w fun e w' => e = .returned (.tuple #[areaV a1 a2 a3 a4, .int .i64 e2]) ∧ Below w.heap.size w w')) :
    Calls Tryd.prog 17 #[.string s] w fun e w' => e = .returned (.tuple #[areaV a1 a2 a3 a4, .int .i64 e2]) ∧ Below w.heap.size w w' := by
  have HR := hide (fun w => readRef_any s w hs)
  unfold maxLen at hs
  have h1' : (rE s != 20) = true := by rw [bne, h1]; rfl
  have h2' : ¬ (rN s : Int) < s.size := by omega
  clear h2
  generalize rE s = e at *
  generalize rN s = n at *
  generalize rR s = r at *
  generalize rC s = c at *
  generalize rP s = p at *
  generalize rQ s = q at *
  go_enter Tryd.func17, Tryd.ntmps17
  go_wp2_with fail
  refine (HR.out _).mono ?_
  rintro e w' ⟨rfl, rfl⟩
  go_wp2_with fail
  refine (HB.out _).mono ?_
  rintro e wb ⟨rfl, hb2⟩
  obtain ⟨hc2, hf2⟩ := bcell hb2
  have z2 := hb2.size
  simp at z2
  have g0 : wb.cell? ⟨w.heap.size, 0, none⟩ = some (.int .i64 0) := (hc2 _ _ (by simp; omega)).trans (by go_simp)
  have g1 : wb.cell? ⟨w.heap.size, 1, none⟩ = some (.int .i64 0) := (hc2 _ _ (by simp; omega)).trans (by go_simp)
  have g2 : wb.cell? ⟨w.heap.size, 2, none⟩ = some (.int .i64 0) := (hc2 _ _ (by simp; omega)).trans (by go_simp)
  have g3 : wb.cell? ⟨w.heap.size, 3, none⟩ = some (.int .i64 0) := (hc2 _ _ (by simp; omega)).trans (by go_simp)
  have fg0 : wb.frozen? ⟨w.heap.size, 0, none⟩ = false := (hf2 _ _ (by simp; omega)).trans (by go_simp)
  have fg1 : wb.frozen? ⟨w.heap.size, 1, none⟩ = false := (hf2 _ _ (by simp; omega)).trans (by go_simp)
  have fg2 : wb.frozen? ⟨w.heap.size, 2, none⟩ = false := (hf2 _ _ (by simp; omega)).trans (by go_simp)
  have fg3 : wb.frozen? ⟨w.heap.size, 3, none⟩ = false := (hf2 _ _ (by simp; omega)).trans (by go_simp)
  go_wp2_with fail
  refine bodyPost_ret (by simp [results, Tryd.results17, go_sem, g0, g1, g2, g3]; try rfl) rfl ?_
  refine ⟨rfl, ?_⟩
  go_grown
  refine Below.trans ?_ (hb2.mono (by simp; omega))
  go_grown

set_option maxHeartbeats 1000000 in
theorem area_two_syn (s : ByteArray) (w : World) (hs : s.size ≤ maxLen) (t : ByteArray) (x y k : Int) (p' q' : Bool) (h1 : (rE s == 20) = false) (h2 : rN s < s.size) (ht : s.extract (rN s) s.size = t) (HK : Hid (∀ w, Calls Tryd.prog 36 #[.string t] w fun e w' => e = .returned (.tuple #[refV x y p' q', .int .i64 k]) ∧ Below w.heap.size w w')) (h3 : (k == 20) = true) :
    Calls Tryd.prog 17 #[.string s] w fun e w' => e = .returned (.tuple #[areaV 0 0 0 0, .int .i64 20]) ∧ Below w.heap.size w w' := by
  have HR := hide (fun w => readRef_any s w hs)
  unfold maxLen at hs
  have h1' : (rE s != 20) = true := by rw [bne, h1]; rfl
  have h2' : (rN s : Int) < s.size := by omega
  generalize rE s = e at *
  generalize rN s = n at *
  generalize rR s = r at *
  generalize rC s = c at *
  generalize rP s = p at *
  generalize rQ s = q at *
  go_enter Tryd.func17, Tryd.ntmps17
  go_wp2_with fail
  refine (HR.out _).mono ?_
  rintro e w' ⟨rfl, rfl⟩
  go_wp2_with fail
  refine (HK.out _).mono ?_
  rintro e wk ⟨rfl, hb⟩
  obtain ⟨hc, hf⟩ := bcell hb
  have z1 := hb.size
  simp at z1
  have g0 : wk.cell? ⟨w.heap.size, 0, none⟩ = some (.int .i64 0) := (hc _ _ (by simp; omega)).trans (by go_simp)
  have g1 : wk.cell? ⟨w.heap.size, 1, none⟩ = some (.int .i64 0) := (hc _ _ (by simp; omega)).trans (by go_simp)
  have g2 : wk.cell? ⟨w.heap.size, 2, none⟩ = some (.int .i64 0) := (hc _ _ (by simp; omega)).trans (by go_simp)
  have g3 : wk.cell? ⟨w.heap.size, 3, none⟩ = some (.int .i64 0) := (hc _ _ (by simp; omega)).trans (by go_simp)
  have fg0 : wk.frozen? ⟨w.heap.size, 0, none⟩ = false := (hf _ _ (by simp; omega)).trans (by go_simp)
  have fg1 : wk.frozen? ⟨w.heap.size, 1, none⟩ = false := (hf _ _ (by simp; omega)).trans (by go_simp)
  have fg2 : wk.frozen? ⟨w.heap.size, 2, none⟩ = false := (hf _ _ (by simp; omega)).trans (by go_simp)
  have fg3 : wk.frozen? ⟨w.heap.size, 3, none⟩ = false := (hf _ _ (by simp; omega)).trans (by go_simp)
  go_wp2_with fail
  refine bodyPost_ret (by simp [results, Tryd.results17, go_sem, g0, g1, g2, g3]; try rfl) rfl ?_
  refine ⟨rfl, ?_⟩
  go_grown
  refine Below.trans ?_ (hb.mono (by simp; omega))
  go_grown

set_option maxHeartbeats 1000000 in
theorem area_two_off1 (s : ByteArray) (w : World) (hs : s.size ≤ maxLen) (t : ByteArray) (x y k : Int) (p' q' : Bool) (h1 : (rE s == 20) = false) (h2 : rN s < s.size) (ht : s.extract (rN s) s.size = t) (HK : Hid (∀ w, Calls Tryd.prog 36 #[.string t] w fun e w' => e = .returned (.tuple #[refV x y p' q', .int .i64 k]) ∧ Below w.heap.size w w')) (h3 : (k == 20) = false) (h4 : (rE s != 0) = true) :
    Calls Tryd.prog 17 #[.string s] w fun e w' => e = .returned (.tuple #[areaV 0 0 0 0, .int .i64 10]) ∧ Below w.heap.size w w' := by
  have HR := hide (fun w => readRef_any s w hs)
  unfold maxLen at hs
  have h1' : (rE s != 20) = true := by rw [bne, h1]; rfl
  have h2' : (rN s : Int) < s.size := by omega
  generalize rE s = e at *
  generalize rN s = n at *
  generalize rR s = r at *
  generalize rC s = c at *
  generalize rP s = p at *
  generalize rQ s = q at *
  go_enter Tryd.func17, Tryd.ntmps17
  go_wp2_with fail
  refine (HR.out _).mono ?_
  rintro e w' ⟨rfl, rfl⟩
  go_wp2_with fail
  refine (HK.out _).mono ?_
  rintro e wk ⟨rfl, hb⟩
  obtain ⟨hc, hf⟩ := bcell hb
  have z1 := hb.size
  simp at z1
  have g0 : wk.cell? ⟨w.heap.size, 0, none⟩ = some (.int .i64 0) := (hc _ _ (by simp; omega)).trans (by go_simp)
  have g1 : wk.cell? ⟨w.heap.size, 1, none⟩ = some (.int .i64 0) := (hc _ _ (by simp; omega)).trans (by go_simp)
  have g2 : wk.cell? ⟨w.heap.size, 2, none⟩ = some (.int .i64 0) := (hc _ _ (by simp; omega)).trans (by go_simp)
  have g3 : wk.cell? ⟨w.heap.size, 3, none⟩ = some (.int .i64 0) := (hc _ _ (by simp; omega)).trans (by go_simp)
  have fg0 : wk.frozen? ⟨w.heap.size, 0, none⟩ = false := (hf _ _ (by simp; omega)).trans (by go_simp)
  have fg1 : wk.frozen? ⟨w.heap.size, 1, none⟩ = false := (hf _ _ (by simp; omega)).trans (by go_simp)
  have fg2 : wk.frozen? ⟨w.heap.size, 2, none⟩ = false := (hf _ _ (by simp; omega)).trans (by go_simp)
  have fg3 : wk.frozen? ⟨w.heap.size, 3, none⟩ = false := (hf _ _ (by simp; omega)).trans (by go_simp)
  go_wp2_with fail
  refine bodyPost_ret (by simp [results, Tryd.results17, go_sem, g0, g1, g2, g3]; try rfl) rfl ?_
  refine ⟨rfl, ?_⟩
  go_grown
  refine Below.trans ?_ (hb.mono (by simp; omega))
  go_grown

set_option maxHeartbeats 1000000 in
theorem area_two_off2 (s : ByteArray) (w : World) (hs : s.size ≤ maxLen) (t : ByteArray) (x y k : Int) (p' q' : Bool) (h1 : (rE s == 20) = false) (h2 : rN s < s.size) (ht : s.extract (rN s) s.size = t) (HK : Hid (∀ w, Calls Tryd.prog 36 #[.string t] w fun e w' => e = .returned (.tuple #[refV x y p' q', .int .i64 k]) ∧ Below w.heap.size w w')) (h3 : (k == 20) = false) (h4 : (rE s != 0) = false) (h5 : (k != 0) = true) :
    Calls Tryd.prog 17 #[.string s] w fun e w' => e = .returned (.tuple #[areaV 0 0 0 0, .int .i64 10]) ∧ Below w.heap.size w w' := by
  have HR := hide (fun w => readRef_any s w hs)
  unfold maxLen at hs
  have h1' : (rE s != 20) = true := by rw [bne, h1]; rfl
  have h2' : (rN s : Int) < s.size := by omega
  generalize rE s = e at *
  generalize rN s = n at *
  generalize rR s = r at *
  generalize rC s = c at *
  generalize rP s = p at *
  generalize rQ s = q at *
  go_enter Tryd.func17, Tryd.ntmps17
  go_wp2_with fail
  refine (HR.out _).mono ?_
  rintro e w' ⟨rfl, rfl⟩
  go_wp2_with fail
  refine (HK.out _).mono ?_
  rintro e wk ⟨rfl, hb⟩
  obtain ⟨hc, hf⟩ := bcell hb
  have z1 := hb.size
  simp at z1
  have g0 : wk.cell? ⟨w.heap.size, 0, none⟩ = some (.int .i64 0) := (hc _ _ (by simp; omega)).trans (by go_simp)
  have g1 : wk.cell? ⟨w.heap.size, 1, none⟩ = some (.int .i64 0) := (hc _ _ (by simp; omega)).trans (by go_simp)
  have g2 : wk.cell? ⟨w.heap.size, 2, none⟩ = some (.int .i64 0) := (hc _ _ (by simp; omega)).trans (by go_simp)
  have g3 : wk.cell? ⟨w.heap.size, 3, none⟩ = some (.int .i64 0) := (hc _ _ (by simp; omega)).trans (by go_simp)
  have fg0 : wk.frozen? ⟨w.heap.size, 0, none⟩ = false := (hf _ _ (by simp; omega)).trans (by go_simp)
  have fg1 : wk.frozen? ⟨w.heap.size, 1, none⟩ = false := (hf _ _ (by simp; omega)).trans (by go_simp)
  have fg2 : wk.frozen? ⟨w.heap.size, 2, none⟩ = false := (hf _ _ (by simp; omega)).trans (by go_simp)
  have fg3 : wk.frozen? ⟨w.heap.size, 3, none⟩ = false := (hf _ _ (by simp; omega)).trans (by go_simp)
  go_wp2_with fail
  refine bodyPost_ret (by simp [results, Tryd.results17, go_sem, g0, g1, g2, g3]; try rfl) rfl ?_
  refine ⟨rfl, ?_⟩
  go_grown
  refine Below.trans ?_ (hb.mono (by simp; omega))
  go_grown

set_option maxHeartbeats 1000000 in
theorem area_two (s : ByteArray) (w : World) (hs : s.size ≤ maxLen) (t : ByteArray) (x y k : Int) (p' q' : Bool) (h1 : (rE s == 20) = false) (h2 : rN s < s.size) (ht : s.extract (rN s) s.size = t) (HK : Hid (∀ w, Calls Tryd.prog 36 #[.string t] w fun e w' => e = .returned (.tuple #[refV x y p' q', .int .i64 k]) ∧ Below w.heap.size w w')) (h3 : (k == 20) = false) (h4 : (rE s != 0) = false) (h5 : (k != 0) = false) (a1 a2 a3 a4 e2 : Int) (HB : Hid (∀ w, Calls Tryd.prog 37 #[refV (rR s) (rC s) (rP s) (rQ s), refV x y p' q'] w fun e w' => e = .returned (.tuple #[areaV a1 a2 a3 a4, .int .i64 e2]) ∧ Below w.heap.size w w')) :
    Calls Tryd.prog 17 #[.string s] w fun e w' => e = .returned (.tuple #[areaV a1 a2 a3 a4, .int .i64 e2]) ∧ Below w.heap.size w w' := by
  have HR := hide (fun w => readRef_any s w hs)
  unfold maxLen at hs
  have h1' : (rE s != 20) = true := by rw [bne, h1]; rfl
  have h2' : (rN s : Int) < s.size := by omega
  generalize rE s = e at *
  generalize rN s = n at *
  generalize rR s = r at *
  generalize rC s = c at *
  generalize rP s = p at *
  generalize rQ s = q at *
  go_enter Tryd.func17, Tryd.ntmps17
  go_wp2_with fail
  refine (HR.out _).mono ?_
  rintro e w' ⟨rfl, rfl⟩
  go_wp2_with fail
  refine (HK.out _).mono ?_
  rintro e wk ⟨rfl, hb⟩
  obtain ⟨hc, hf⟩ := bcell hb
  have z1 := hb.size
  simp at z1
  have g0 : wk.cell? ⟨w.heap.size, 0, none⟩ = some (.int .i64 0) := (hc _ _ (by simp; omega)).trans (by go_simp)
  have g1 : wk.cell? ⟨w.heap.size, 1, none⟩ = some (.int .i64 0) := (hc _ _ (by simp; omega)).trans (by go_simp)
  have g2 : wk.cell? ⟨w.heap.size, 2, none⟩ = some (.int .i64 0) := (hc _ _ (by simp; omega)).trans (by go_simp)
  have g3 : wk.cell? ⟨w.heap.size, 3, none⟩ = some (.int .i64 0) := (hc _ _ (by simp; omega)).trans (by go_simp)
  have fg0 : wk.frozen? ⟨w.heap.size, 0, none⟩ = false := (hf _ _ (by simp; omega)).trans (by go_simp)
  have fg1 : wk.frozen? ⟨w.heap.size, 1, none⟩ = false := (hf _ _ (by simp; omega)).trans (by go_simp)
  have fg2 : wk.frozen? ⟨w.heap.size, 2, none⟩ = false := (hf _ _ (by simp; omega)).trans (by go_simp)
  have fg3 : wk.frozen? ⟨w.heap.size, 3, none⟩ = false := (hf _ _ (by simp; omega)).trans (by go_simp)
  go_wp2_with fail
  refine (HB.out _).mono ?_
  rintro e wb ⟨rfl, hb2⟩
  obtain ⟨hc2, hf2⟩ := bcell hb2
  have z2 := hb2.size
  simp at z2
  have k0 : wb.cell? ⟨w.heap.size, 0, none⟩ = some (.int .i64 0) := (hc2 _ _ (by simp; omega)).trans (by simp [g0, go_sem])
  have k1 : wb.cell? ⟨w.heap.size, 1, none⟩ = some (.int .i64 0) := (hc2 _ _ (by simp; omega)).trans (by simp [g1, go_sem])
  have k2 : wb.cell? ⟨w.heap.size, 2, none⟩ = some (.int .i64 0) := (hc2 _ _ (by simp; omega)).trans (by simp [g2, go_sem])
  have k3 : wb.cell? ⟨w.heap.size, 3, none⟩ = some (.int .i64 0) := (hc2 _ _ (by simp; omega)).trans (by simp [g3, go_sem])
  have fk0 : wb.frozen? ⟨w.heap.size, 0, none⟩ = false := (hf2 _ _ (by simp; omega)).trans (by simp [fg0, go_sem])
  have fk1 : wb.frozen? ⟨w.heap.size, 1, none⟩ = false := (hf2 _ _ (by simp; omega)).trans (by simp [fg1, go_sem])
  have fk2 : wb.frozen? ⟨w.heap.size, 2, none⟩ = false := (hf2 _ _ (by simp; omega)).trans (by simp [fg2, go_sem])
  have fk3 : wb.frozen? ⟨w.heap.size, 3, none⟩ = false := (hf2 _ _ (by simp; omega)).trans (by simp [fg3, go_sem])
  go_wp2_with fail
  refine bodyPost_ret (by simp [results, Tryd.results17, go_sem, k0, k1, k2, k3]; try rfl) rfl ?_
  refine ⟨rfl, ?_⟩
  go_grown
  refine Below.trans ?_ (hb2.mono (by simp; omega))
  go_grown
  refine Below.trans ?_ (hb.mono (by simp; omega))
  go_grown

end Go.Proofs.YtjhfjpofmkofhaaDoor
