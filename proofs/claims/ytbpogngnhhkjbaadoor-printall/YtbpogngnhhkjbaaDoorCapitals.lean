/- What the law's own capitals answers, for every text of some length: each small letter as its capital. Proved of the Go text. -/
import Derived.Test.YtbpogngnhhkjbaaDoorForms
import Derived.OwnWalk
import Derived.Laws.BytesArg
namespace Go.Proofs.YtbpogngnhhkjbaaDoor
open Go.RowKit
set_option linter.unusedVariables false

def capI (c : UInt8) : Int := if isS c then (c.toNat : Int) - 97 + 65 else c.toNat
def capOf (c : UInt8) : UInt8 := UInt8.ofNat (capI c).toNat
def capB (s : ByteArray) : ByteArray := ⟨(s.data.toList.map capOf).toArray⟩
theorem capB_data (s : ByteArray) : (capB s).data.toList = s.data.toList.map capOf := by simp [capB]
theorem info_u8 : (Tryd.prog.info? 5).map (fun i => (i.zero, i.size, i.bytes)) = some (some (.int .u8 0), 1, 1) := by kernel_rfl
def capVs (s : ByteArray) (k : Nat) : List Value := (s.data.toList.take k).map fun c => Value.int .u8 (capI c)
theorem capVs_snoc (s : ByteArray) (k : Nat) (h : k < s.size) : capVs s (k + 1) = capVs s k ++ [.int .u8 (capI s[k])] := by
  unfold capVs; rw [take_snoc s k h]; simp
theorem rel_cap {B k : Nat} {s : ByteArray} {w wr w1 : World} {v v' : Value} {o : Obj} {x : Int} (hk : k < s.size) (hx : x = capI s[k]) (hB : B ≤ wr.heap.size) (hnx : Below B w wr)
    (hown' : w1.ownsRow B 5 1 v' (k + 1) (capVs s k ++ [.int .u8 x])) (hown : wr.ownsRow B 5 1 v k (capVs s k)) (hgrow : (wr.alloc o).grownBy w1 v.ownBlock) :
    w1.ownsRow B 5 1 v' (k + 1) (capVs s (k + 1)) ∧ Below B w w1 := by
  refine ⟨by rw [capVs_snoc s k hk, ← hx]; exact hown', (hnx.alloc hB o).grown hgrow (by simp; omega) fun j hj => ?_⟩
  exact (hown.lt j hj).1
theorem capVs_nums (s : ByteArray) : capVs s s.size = (s.data.toList.map capI).map (Value.int .u8) := by
  unfold capVs; rw [take_all s s.size (Nat.le_refl _)]; simp
theorem capB_nums (s : ByteArray) : capB s = strOfNums (s.data.toList.map capI) := by
  unfold capB strOfNums; rw [List.map_map]; rfl
theorem conv_own {w : World} {B n : Nat} {v : Value} {zs : List Int} (h : w.ownsRow B 5 1 v n (zs.map (Value.int .u8))) : (convert 37 9 v).run Tryd.prog w = .ok (.string (strOfNums zs)) w := by
  obtain ⟨hl, h⟩ := h
  rcases h with ⟨rfl, rfl⟩ | ⟨g, cap, cur, rfl, _, hg, _, _, _, ht⟩
  · have : zs = [] := by
      have := hl; simp at this; exact this
    subst this
    exact run_convert_bytes_nil w 37 5 Tryd.underlying37 Tryd.underlying5 0 0 9 Tryd.underlying9
  · refine run_convert_bytes_arg w 37 5 Tryd.underlying37 Tryd.underlying5 g 0 n cap zs (by simpa using hl) (fun i hi => ?_) 9 Tryd.underlying9
    have hlz : zs.length = n := by simpa using hl
    have e : cur.toList[i]? = some (.int .u8 (zs.getD i 0)) := by
      have h1 : (cur.toList.take (n * 1))[i]? = cur.toList[i]? := by rw [List.getElem?_take]; rw [if_pos (by omega)]
      rw [← h1, ht]
      simp [List.getElem?_map, List.getD, List.getElem?_eq_getElem (show i < zs.length by omega)]
    unfold World.cell?
    simp [hg]
    simpa using e
end Go.Proofs.YtbpogngnhhkjbaaDoor
