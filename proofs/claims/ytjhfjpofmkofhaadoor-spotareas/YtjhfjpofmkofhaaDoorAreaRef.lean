/- What spot.ReadArea answers for one written reference, and for two with a colon between: proved of the Go text. -/
import Derived.Test.YtjhfjpofmkofhaaDoorArea
import Derived.Test.YtjhfjpofmkofhaaDoorDollars
namespace Go.Proofs.YtjhfjpofmkofhaaDoor
open Go.RowKit
set_option linter.unusedVariables false

theorem ba_ext {a b : ByteArray} (h : a.data.toList = b.data.toList) : a = b := by
  obtain ⟨⟨x⟩⟩ := a
  obtain ⟨⟨y⟩⟩ := b
  simp at h
  rw [h]
def colon : ByteArray := { data := #[58] }
def two (s t : ByteArray) : ByteArray := (s ++ colon) ++ t
theorem two_data (s t : ByteArray) : (two s t).data.toList = s.data.toList ++ 58 :: t.data.toList := by
  unfold two
  rw [append_data, append_data]
  show s.data.toList ++ [58] ++ t.data.toList = _
  simp
theorem two_size (s t : ByteArray) : (two s t).size = s.size + 1 + t.size := by
  rw [Lib.size_eq, two_data, Lib.size_eq, Lib.size_eq]; simp; omega
theorem area_ref1 (r c : Nat) (p q : Bool) (w : World) (hr : r < 65536) (hc : c < 702) :
    Calls Tryd.prog 17 #[.string (refB r c p q)] w fun e w' => e = .returned (.tuple #[areaV r c r c, .int .i64 0]) ∧ Below w.heap.size w w' := by
  obtain ⟨e1, e2, e3, e4, e5, e6⟩ := read_ref (refB r c p q) r c p q [] hr hc (by simp) rfl
  have bs := refB_bounds r c p q hr hc
  refine area_one _ w (by unfold maxLen; omega) (by rw [e1]; rfl) e6 (by rw [e1]; rfl) _ _ _ _ _ (hide fun w => ?_)
  rw [e2, e3, e4, e5]
  have := between_yes r c r c p q p q w (by omega) (by omega) (by omega) (by omega) (by omega) (by omega) (by omega) (by omega) (by simp)
  simpa using this
theorem area_ref2 (r c : Nat) (p q : Bool) (r' c' : Nat) (p' q' : Bool) (w : World) (hr : r < 65536) (hc : c < 702) (hr' : r' < 65536) (hc' : c' < 702) (a1 a2 a3 a4 e : Int)
    (HB : ∀ w, Calls Tryd.prog 37 #[refV r c p q, refV r' c' p' q'] w fun e' w' => e' = .returned (.tuple #[areaV a1 a2 a3 a4, .int .i64 e]) ∧ Below w.heap.size w w') :
    Calls Tryd.prog 17 #[.string (two (refB r c p q) (refB r' c' p' q'))] w fun e' w' => e' = .returned (.tuple #[areaV a1 a2 a3 a4, .int .i64 e]) ∧ Below w.heap.size w w' := by
  have bs := refB_bounds r c p q hr hc
  have bt := refB_bounds r' c' p' q' hr' hc'
  have hz := two_size (refB r c p q) (refB r' c' p' q')
  obtain ⟨e1, e2, e3, e4, e5, e6⟩ := read_ref (two (refB r c p q) (refB r' c' p' q')) r c p q (58 :: (refB r' c' p' q').data.toList) hr hc (two_data _ _) rfl
  obtain ⟨k1, k2, k3, k4, k5, k6⟩ := read_ref (refB r' c' p' q') r' c' p' q' [] hr' hc' (by simp) rfl
  obtain ⟨t, ht⟩ : ∃ t, (two (refB r c p q) (refB r' c' p' q')).extract (rN (two (refB r c p q) (refB r' c' p' q'))) (two (refB r c p q) (refB r' c' p' q')).size = t := ⟨_, rfl⟩
  have td : t.data.toList = 58 :: (refB r' c' p' q').data.toList := by
    rw [← ht, Lib.extract_data, e6, two_data, hz, show (refB r c p q).size = (refB r c p q).data.toList.length from Lib.size_eq _, List.drop_left]
    exact List.take_of_length_le (by rw [List.length_cons, ← Lib.size_eq, ← Lib.size_eq]; omega)
  have tz : t.size = 1 + (refB r' c' p' q').size := by rw [Lib.size_eq, td, Lib.size_eq]; simp; omega
  have t0 : ((t[0]'(by omega)).toNat : Int) = 58 := by
    obtain ⟨y, hy⟩ := toList_cons t (by omega)
    rw [hy] at td
    rw [(List.cons.inj td).1]; rfl
  have tu : t.extract 1 t.size = refB r' c' p' q' := by
    apply ba_ext
    rw [Lib.extract_data, td, List.drop_one, List.tail_cons]
    exact List.take_of_length_le (by rw [← Lib.size_eq]; omega)
  refine area_two _ w (by unfold maxLen; omega) t r' c' 0 p' q' (by rw [e1]; rfl) (by omega) ht (hide fun w => ?_) rfl (by rw [e1]; rfl) rfl _ _ _ _ _ (hide fun w => ?_)
  · have := corner_good t (refB r' c' p' q') w (by unfold maxLen; omega) (by omega) (by rw [t0]; rfl) tu (by rw [k6]; omega)
    rwa [k1, k2, k3, k4, k5] at this
  · rw [e2, e3, e4, e5]
    exact HB w
end Go.Proofs.YtjhfjpofmkofhaaDoor
