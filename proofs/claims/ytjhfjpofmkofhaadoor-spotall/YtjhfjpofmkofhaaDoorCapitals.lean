/- What the law's own capitals answers, for every text of some length: each small letter as its capital. Proved of the Go text. -/
import Derived.Test.YtjhfjpofmkofhaaDoorForms
import Derived.OwnWalk
import Derived.Laws.BytesArg
namespace Go.Proofs.YtjhfjpofmkofhaaDoor
open Go.RowKit
set_option linter.unusedVariables false

def capI (c : UInt8) : Int := if isS c then (c.toNat : Int) - 97 + 65 else c.toNat
def capOf (c : UInt8) : UInt8 := UInt8.ofNat (capI c).toNat
def capB (s : ByteArray) : ByteArray := ⟨(s.data.toList.map capOf).toArray⟩
theorem capB_data (s : ByteArray) : (capB s).data.toList = s.data.toList.map capOf := by simp [capB]
theorem info_u8 : (Tryd.prog.info? 5).map (fun i => (i.zero, i.size, i.bytes)) = some (some (.int .u8 0), 1, 1) := by kernel_rfl
def capVs (s : ByteArray) (k : Nat) : List Value := (s.data.toList.take k).map fun c => Value.int .u8 (capI c)
theorem capVs_snoc (s : ByteArray) (k : Nat) (h : k < s.size) : capVs s (k + 1) = capVs s k ++ [.int .u8 (capI s[k])] := by
  unfold capVs; rw [take_snoc s k h]; simp
theorem rel_cap {B k : Nat} {s : ByteArray} {w wr w1 : World} {v v' : Value} {o : Obj} {x : Int} (hk : k < s.size) (hx : x = capI s[k]) (hB : B ≤ wr.heap.size) (hnx : Below B w wr)
    (hown' : w1.ownsRow B 5 1 v' (k + 1) (capVs s k ++ [.int .u8 x])) (hown : wr.ownsRow B 5 1 v k (capVs s k)) (hgrow : (wr.alloc o).grownBy w1 v.ownBlock) :
    w1.ownsRow B 5 1 v' (k + 1) (capVs s (k + 1)) ∧ Below B w w1 := by
  refine ⟨by rw [capVs_snoc s k hk, ← hx]; exact hown', (hnx.alloc hB o).grown hgrow (by simp; omega) fun j hj => ?_⟩
  exact (hown.lt j hj).1
theorem capVs_nums (s : ByteArray) : capVs s s.size = (s.data.toList.map capI).map (Value.int .u8) := by
  unfold capVs; rw [take_all s s.size (Nat.le_refl _)]; simp
theorem capB_nums (s : ByteArray) : capB s = strOfNums (s.data.toList.map capI) := by
  unfold capB strOfNums; rw [List.map_map]; rfl
theorem conv_own {w : World} {B n : Nat} {v : Value} {zs : List Int} (h : w.ownsRow B 5 1 v n (zs.map (Value.int .u8))) : (convert 60 9 v).run Tryd.prog w = .ok (.string (strOfNums zs)) w := by
  obtain ⟨hl, h⟩ := h
  rcases h with ⟨rfl, rfl⟩ | ⟨g, cap, cur, rfl, _, hg, _, _, _, ht⟩
  · have : zs = [] := by
      have := hl; simp at this; exact this
    subst this
    exact run_convert_bytes_nil w 60 5 Tryd.underlying60 Tryd.underlying5 0 0 9 Tryd.underlying9
  · refine run_convert_bytes_arg w 60 5 Tryd.underlying60 Tryd.underlying5 g 0 n cap zs (by simpa using hl) (fun i hi => ?_) 9 Tryd.underlying9
    have hlz : zs.length = n := by simpa using hl
    have e : cur.toList[i]? = some (.int .u8 (zs.getD i 0)) := by
      have h1 : (cur.toList.take (n * 1))[i]? = cur.toList[i]? := by rw [List.getElem?_take]; rw [if_pos (by omega)]
      rw [← h1, ht]
      simp [List.getElem?_map, List.getD, List.getElem?_eq_getElem (show i < zs.length by omega)]
    unfold World.cell?
    simp [hg]
    simpa using e
set_option maxHeartbeats 1000000 in
theorem capitals_any (s : ByteArray) (w : World) (hs : s.size ≤ 1048576) :
    Calls Tryd.prog 16 #[.string s] w fun e w' => e = .returned (.string (capB s)) ∧ Below w.heap.size w w' := by
  obtain ⟨i0, hi, hz0, hz1, hz2⟩ := info_parts info_u8
  have hs' : s.size ≤ 9223372036854775807 := by omega
  go_enter Tryd.func16, Tryd.ntmps16
  go_wp2
  go_loopw [3, 4, 5] (fun v i _ wr => ∃ k : Nat, k ≤ s.size ∧ i = .int .i64 k ∧ wr.ownsRow w.heap.size 5 1 v k (capVs s k) ∧ Below w.heap.size w wr) (fun _ i _ _ => s.size - (intOf i).toNat)
  case atStart => exact ⟨0, Nat.zero_le _, rfl, World.ownsRow_nil _ _ _ _, Below.refl _ _⟩
  case round =>
    obtain ⟨k, hk, rfl, hown, hnx⟩ := hrel
    have hwz := hnx.size
    by_cases hlt : k < s.size
    · by_cases h1 : 97 ≤ (s[k].toNat : Int)
      · by_cases h2 : (s[k].toNat : Int) ≤ 122
        · skip
          have HC : Hid ((s[k].toNat : Int) - 97 + 65 = capI s[k]) := by unfold capI; rw [if_pos (by simp [isS]; omega)]; rfl
          go_wp2_with (at_builtin; refine wpList_append_own _ rfl _ _ 60 rfl w.heap.size 5 i0 (.int .u8 0) 1 1 Tryd.underlying60 hi hz0 hz1 hz2 rfl (by decide) _ _ _ rfl (hown.alloc _) ⟨wr.heap.size, 0, none⟩ 1 1 [.int .u8 ((s[k].toNat : Int) - 97 + 65)] rfl rfl (fun j u hj => by match j, hj with | 0, hj => simp at hj; subst hj; simp [Addr.add]) (fun u hu => by simp at hu; subst hu; rfl) (by unfold maxLen; omega) (by omega) (by simp; omega) ?_)
          intro v' w1 hown' hgrow _
          have R := hide (rel_cap hlt HC.out hwz hnx hown' hown hgrow)
          clear hown' hgrow hown
          go_wp2
          go_roundw
          case rel => exact ⟨k + 1, by omega, by go_num, R.out.1, R.out.2⟩
          case measure => simp [intOf]; omega
        · skip
          have HC : Hid ((s[k].toNat : Int) = capI s[k]) := by unfold capI; rw [if_neg (by simp [isS]; omega)]; rfl
          go_wp2_with (at_builtin; refine wpList_append_own _ rfl _ _ 60 rfl w.heap.size 5 i0 (.int .u8 0) 1 1 Tryd.underlying60 hi hz0 hz1 hz2 rfl (by decide) _ _ _ rfl (hown.alloc _) ⟨wr.heap.size, 0, none⟩ 1 1 [.int .u8 ((s[k].toNat : Int))] rfl rfl (fun j u hj => by match j, hj with | 0, hj => simp at hj; subst hj; simp [Addr.add]) (fun u hu => by simp at hu; subst hu; rfl) (by unfold maxLen; omega) (by omega) (by simp; omega) ?_)
          intro v' w1 hown' hgrow _
          have R := hide (rel_cap hlt HC.out hwz hnx hown' hown hgrow)
          clear hown' hgrow hown
          go_wp2
          go_roundw
          case rel => exact ⟨k + 1, by omega, by go_num, R.out.1, R.out.2⟩
          case measure => simp [intOf]; omega
      · have h3 : (s[k].toNat : Int) < 97 := by omega
        clear h1
        have HC : Hid ((s[k].toNat : Int) = capI s[k]) := by unfold capI; rw [if_neg (by simp [isS]; omega)]; rfl
        go_wp2_with (at_builtin; refine wpList_append_own _ rfl _ _ 60 rfl w.heap.size 5 i0 (.int .u8 0) 1 1 Tryd.underlying60 hi hz0 hz1 hz2 rfl (by decide) _ _ _ rfl (hown.alloc _) ⟨wr.heap.size, 0, none⟩ 1 1 [.int .u8 ((s[k].toNat : Int))] rfl rfl (fun j u hj => by match j, hj with | 0, hj => simp at hj; subst hj; simp [Addr.add]) (fun u hu => by simp at hu; subst hu; rfl) (by unfold maxLen; omega) (by omega) (by simp; omega) ?_)
        intro v' w1 hown' hgrow _
        have R := hide (rel_cap hlt HC.out hwz hnx hown' hown hgrow)
        clear hown' hgrow hown
        go_wp2
        go_roundw
        case rel => exact ⟨k + 1, by omega, by go_num, R.out.1, R.out.2⟩
        case measure => simp [intOf]; omega
    · obtain rfl : k = s.size := by omega
      rw [capVs_nums] at hown
      have hcv := conv_own hown
      have HE := hide (capB_nums s)
      go_wp2
      go_ret
      exact ⟨by rw [HE.out]; rfl, hnx⟩
end Go.Proofs.YtjhfjpofmkofhaaDoor
