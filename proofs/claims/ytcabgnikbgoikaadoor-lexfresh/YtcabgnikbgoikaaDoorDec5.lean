/- Runes of a text as a range over a string goes over them: where each begins, how many there are; pieces; of no program. -/
import Derived.Laws.RangeAny
import Derived.Lib.DecodeN
import Derived.IntWalk
namespace Go.Proofs.YtcabgnikbgoikaaDoor
set_option linter.unusedVariables false

/-- How many bytes the rune at p has. -/
def wd (s : ByteArray) (p : Nat) : Nat := (Utf8.decode s p).2
/-- Its number. -/
def nr (s : ByteArray) (p : Nat) : Nat := (Utf8.decode s p).1
theorem decN_w (n b0 b1 b2 b3 : Nat) (hn : 1 ≤ n) : 1 ≤ (Lib.decodeN n b0 b1 b2 b3).2 ∧ (Lib.decodeN n b0 b1 b2 b3).2 ≤ n ∧ (Lib.decodeN n b0 b1 b2 b3).2 ≤ 4 := by
  unfold Lib.decodeN
  repeat' split
  all_goals simp only
  all_goals omega
theorem decN_r (n b0 b1 b2 b3 : Nat) (h0 : b0 < 256) : (Lib.decodeN n b0 b1 b2 b3).1 ≤ 1114111 := by
  unfold Lib.decodeN
  repeat' split
  all_goals simp only
  all_goals omega
theorem wd_pos (s : ByteArray) (p : Nat) (h : p < s.size) : 1 ≤ wd s p := by unfold wd; rw [Lib.decode_at]; exact (decN_w _ _ _ _ _ (by omega)).1
theorem wd_le (s : ByteArray) (p : Nat) (h : p < s.size) : p + wd s p ≤ s.size := by
  have := (decN_w (s.size - p) (s.get! p).toNat (s.get! (p + 1)).toNat (s.get! (p + 2)).toNat (s.get! (p + 3)).toNat (by omega)).2.1
  unfold wd; rw [Lib.decode_at]; omega
theorem nr_le (s : ByteArray) (p : Nat) : nr s p ≤ 1114111 := by unfold nr; rw [Lib.decode_at]; exact decN_r _ _ _ _ _ (s.get! p).toNat_lt
/-- Where the next rune begins. -/
def nx (s : ByteArray) (p : Nat) : Nat := if p < s.size then p + wd s p else p
/-- n runes on from p. -/
def sk (s : ByteArray) : Nat → Nat → Nat
  | 0, p => p
  | n + 1, p => sk s n (nx s p)
def ct (s : ByteArray) : Nat → Nat → Nat
  | 0, _ => 0
  | f + 1, p => if p < s.size then ct s f (p + wd s p) + 1 else 0
/-- How many runes there are from p on. -/
def rc (s : ByteArray) (p : Nat) : Nat := ct s (s.size - p) p
theorem nx_le (s : ByteArray) (p : Nat) (h : p ≤ s.size) : nx s p ≤ s.size := by
  unfold nx; split
  · exact wd_le s p (by assumption)
  · exact h
theorem nx_ge (s : ByteArray) (p : Nat) : p ≤ nx s p := by unfold nx; split <;> omega
theorem nx_gt (s : ByteArray) (p : Nat) (h : p < s.size) : p < nx s p := by have := wd_pos s p h; unfold nx; rw [if_pos h]; omega
theorem sk_le (s : ByteArray) : ∀ n p, p ≤ s.size → sk s n p ≤ s.size
  | 0, p, h => h
  | n + 1, p, h => sk_le s n _ (nx_le s p h)
theorem sk_ge (s : ByteArray) : ∀ n p, p ≤ sk s n p
  | 0, p => Nat.le_refl _
  | n + 1, p => Nat.le_trans (nx_ge s p) (sk_ge s n _)
theorem sk_add (s : ByteArray) : ∀ n m p, sk s (n + m) p = sk s m (sk s n p)
  | 0, m, p => by rw [Nat.zero_add]; rfl
  | n + 1, m, p => by rw [Nat.add_right_comm]; exact sk_add s n m _
theorem sk_succ (s : ByteArray) (n p : Nat) : sk s (n + 1) p = nx s (sk s n p) := sk_add s n 1 p
theorem sk_end (s : ByteArray) : ∀ n p, ¬ p < s.size → sk s n p = p
  | 0, p, h => rfl
  | n + 1, p, h => by show sk s n (nx s p) = p; rw [nx, if_neg h]; exact sk_end s n p h
theorem sk_mono (s : ByteArray) {n m : Nat} (h : n ≤ m) (p : Nat) : sk s n p ≤ sk s m p := by
  obtain ⟨d, rfl⟩ := Nat.exists_eq_add_of_le h
  rw [sk_add]; exact sk_ge s d _
theorem ct_fuel (s : ByteArray) : ∀ f p, s.size - p ≤ f → ∀ f', s.size - p ≤ f' → ct s f p = ct s f' p
  | 0, p, h, 0, h' => rfl
  | 0, p, h, f' + 1, h' => by rw [ct, ct, if_neg (by omega)]
  | f + 1, p, h, 0, h' => by rw [ct, ct, if_neg (by omega)]
  | f + 1, p, h, f' + 1, h' => by
    rw [ct, ct]; split
    · have := wd_pos s p (by assumption)
      rw [ct_fuel s f _ (by omega) f' (by omega)]
    · rfl
theorem rc_end (s : ByteArray) (p : Nat) (h : ¬ p < s.size) : rc s p = 0 := by unfold rc; rw [show s.size - p = 0 by omega]; rfl
theorem rc_step (s : ByteArray) (p : Nat) (h : p < s.size) : rc s p = rc s (p + wd s p) + 1 := by
  have := wd_pos s p h
  unfold rc
  obtain ⟨f, hf⟩ : ∃ f, s.size - p = f + 1 := ⟨s.size - p - 1, by omega⟩
  rw [hf, ct, if_pos h, ct_fuel s f _ (by omega) _ (Nat.le_refl _)]
theorem rc_le (s : ByteArray) : ∀ k p, s.size - p ≤ k → rc s p ≤ s.size - p
  | 0, p, h => by rw [rc_end s p (by omega)]; omega
  | k + 1, p, h => by
    by_cases hp : p < s.size
    · have := wd_pos s p hp; have := wd_le s p hp
      have ih := rc_le s k (p + wd s p) (by omega)
      rw [rc_step s p hp]; omega
    · rw [rc_end s p hp]; omega
theorem rc_size (s : ByteArray) : rc s 0 ≤ s.size := by have := rc_le s s.size 0 (by omega); omega
theorem rc_pos (s : ByteArray) (p : Nat) (h : p < s.size) : 0 < rc s p := by rw [rc_step s p h]; omega
/-- n runes on there are n fewer. -/
theorem rc_sk (s : ByteArray) : ∀ n p, p ≤ s.size → rc s (sk s n p) = rc s p - n
  | 0, p, h => by simp [sk]
  | n + 1, p, h => by
    show rc s (sk s n (nx s p)) = _
    rw [rc_sk s n _ (nx_le s p h)]
    by_cases hp : p < s.size
    · rw [rc_step s p hp, nx, if_pos hp]; omega
    · rw [nx, if_neg hp, rc_end s p hp]; omega
theorem sk_lt (s : ByteArray) (n p : Nat) (h : p ≤ s.size) (hn : n < rc s p) : sk s n p < s.size := by
  apply Classical.byContradiction
  intro hc
  have := rc_sk s n p h
  rw [rc_end s _ hc] at this
  omega
theorem sk_all (s : ByteArray) (n p : Nat) (h : p ≤ s.size) (hn : rc s p ≤ n) : sk s n p = s.size := by
  have h1 := sk_le s n p h
  have h2 := rc_sk s n p h
  rcases Nat.lt_or_ge (sk s n p) s.size with hc | hc
  · have := rc_pos s _ hc; omega
  · omega
theorem sk_lt_iff (s : ByteArray) (n p : Nat) (h : p ≤ s.size) : sk s n p < s.size ↔ n < rc s p := by
  constructor
  · intro hl; apply Classical.byContradiction; intro hc; have := sk_all s n p h (by omega); omega
  · exact sk_lt s n p h
theorem sk_strict (s : ByteArray) {n m p : Nat} (h : p ≤ s.size) (hnm : n < m) (hn : n < rc s p) : sk s n p < sk s m p := by
  have h1 := nx_gt s _ (sk_lt s n p h hn)
  rw [← sk_succ] at h1
  exact Nat.lt_of_lt_of_le h1 (sk_mono s hnm p)
/-- The same, of the text from a on. -/
theorem get_ext (s : ByteArray) (a i : Nat) (h : a + i < s.size) : (s.extract a s.size).get! i = s.get! (a + i) := by
  have hs : i < (s.extract a s.size).size := by rw [ByteArray.size_extract]; omega
  show (s.extract a s.size).data[i]! = s.data[a + i]!
  rw [getElem!_pos _ _ (by simpa using hs), getElem!_pos _ _ (by simpa using h)]
  simp [ByteArray.data_extract]
theorem get_beyond (s : ByteArray) (i : Nat) (h : ¬ i < s.size) : s.get! i = 0 := by
  show s.data[i]! = 0
  rw [getElem!_neg _ _ (by simpa using h)]; rfl
theorem get_ext' (s : ByteArray) (a i : Nat) : (s.extract a s.size).get! i = s.get! (a + i) := by
  by_cases h : a + i < s.size
  · exact get_ext s a i h
  · rw [get_beyond s _ h, get_beyond]
    rw [ByteArray.size_extract]; omega
theorem dec_ext (s : ByteArray) (a p : Nat) : Utf8.decode (s.extract a s.size) p = Utf8.decode s (a + p) := by
  rw [Lib.decode_at, Lib.decode_at, get_ext', get_ext', get_ext', get_ext', ByteArray.size_extract, Nat.min_self, Nat.sub_sub]
  rfl
theorem ext_size (s : ByteArray) (a : Nat) : (s.extract a s.size).size = s.size - a := by rw [ByteArray.size_extract, Nat.min_self]
theorem nx_ext (s : ByteArray) (a p : Nat) (h : a ≤ s.size) : a + nx (s.extract a s.size) p = nx s (a + p) := by
  unfold nx wd
  rw [dec_ext, ext_size]
  split <;> split <;> omega
theorem sk_ext (s : ByteArray) (a : Nat) (h : a ≤ s.size) : ∀ n p, a + sk (s.extract a s.size) n p = sk s n (a + p)
  | 0, p => rfl
  | n + 1, p => by
    show a + sk _ n (nx _ p) = sk s n (nx s (a + p))
    rw [sk_ext s a h n, nx_ext s a p h]
theorem sk_ext0 (s : ByteArray) (a : Nat) (h : a ≤ s.size) (n : Nat) : sk (s.extract a s.size) n 0 = sk s n a - a := by
  have := sk_ext s a h n 0
  rw [Nat.add_zero] at this; omega
theorem ext_ext (s : ByteArray) (a b : Nat) (h : a + b ≤ s.size) : (s.extract a s.size).extract 0 b = s.extract a (a + b) := by
  rw [ByteArray.extract_extract]
  congr 1; omega
theorem ext_all (s : ByteArray) : s.extract 0 s.size = s := ByteArray.extract_zero_size
end Go.Proofs.YtcabgnikbgoikaaDoor
