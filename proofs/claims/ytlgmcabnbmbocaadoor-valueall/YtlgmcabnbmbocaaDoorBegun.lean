/- whole.Text writes a number's decimal numeral, for every number of 64 bits; and the fixed calls ahead of each law answer as the document fixes them: proved of the Go text, given that strconv's table of powers is as its text lays it. -/
import Derived.Test.YtlgmcabnbmbocaaDoorRows
import Derived.Test.YtlgmcabnbmbocaaDoorMath
import Derived.Test.YtlgmcabnbmbocaaDoorBytes
import Derived.Test.YtlgmcabnbmbocaaDoorSums
import Derived.Test.YtlgmcabnbmbocaaDoorRead
import Derived.Test.YtlgmcabnbmbocaaDoorShelf
import Derived.WalkKit
import Derived.WalkSpells
import Derived.WalkLawsBesides
namespace Go.Proofs.YtlgmcabnbmbocaaDoor
open Go.RowKit
set_option linter.unusedVariables false

/-- The table is as strconv's text lays it. -/
def Tab (w : World) : Prop := Lib.TabIs Tryd.prog w "internal/strconv.uint64pow10" .u64 Lib.pow10Tab
theorem gTab : Tryd.prog.globalNamed "internal/strconv.uint64pow10" = some 1 := by kernel_rfl
theorem tab_size {w : World} (h : Tab w) : 1 < w.heap.size := by
  unfold Tab Lib.TabIs World.var? at h
  simp only [gTab, Option.bind_some] at h
  by_cases hs : 1 < w.heap.size
  · exact hs
  · rw [Array.getElem?_eq_none (by omega)] at h
    simp at h
theorem tab_below {w w' : World} (h : Tab w) (hb : Below w.heap.size w w') : Tab w' := var?_below hb gTab (tab_size h) h

theorem below_grows (w : World) (k : Nat) (os : Array Obj) : Below w.heap.size w (Sort.grow (w.drewN k) os) :=
  ⟨rfl, rfl, rfl, by show w.heap.size ≤ (w.heap ++ os).size; rw [Array.size_append]; omega, fun i hi => by show (w.heap ++ os)[i]? = _; rw [Array.getElem?_append, if_pos hi]⟩

set_option maxHeartbeats 400000 in
theorem text_any (n : Int) (w : World) (h0 : -9223372036854775808 ≤ n) (h1 : n ≤ 9223372036854775807) (ht : Tab w) :
    Calls Tryd.prog 28 #[.int .i64 n] w fun e w' => e = .returned (.string ⟨(Lib.itoa n).toArray⟩) ∧ Below w.heap.size w w' := by
  have HT := hide (Tryd.strconv_FormatInt_10 n h0 h1 w ht)
  clear ht
  go_enter Tryd.func28, Tryd.ntmps28
  go_wp2_with (go_at_call 46; refine HT.out.mono ?_; rintro e w' ⟨rfl, k, os, rfl⟩)
  go_ret
  exact ⟨rfl, below_grows w k os⟩

theorem itoa_m5 : Lib.itoa (-5) = [45, 53] := by
  have : Lib.itoa (-5) = 45 :: Lib.decDigits 5 := by decide +kernel
  rw [this, Lib.decDigits_one (by decide)]; rfl

def s007 : ByteArray := ⟨#[48, 48, 55]⟩
def sm12 : ByteArray := ⟨#[45, 49, 50]⟩
theorem read007 (w : World) : Calls Tryd.prog 31 #[.string { data := #[48, 48, 55] }] w fun e w' => e = .returned (.tuple #[.int .i64 0, .int .i64 12]) ∧ w' = w :=
  read_bad s007 w (by decide +kernel) (by decide +kernel)
theorem readm12 (w : World) : Calls Tryd.prog 31 #[.string { data := #[45, 49, 50] }] w fun e w' => e = .returned (.tuple #[.int .i64 (-12), .int .i64 0]) ∧ w' = w :=
  read_neg sm12 ⟨#[49, 50]⟩ w (by decide +kernel) (by decide +kernel) (by decide +kernel) (by decide +kernel) (by decide +kernel) (by decide +kernel)

end Go.Proofs.YtlgmcabnbmbocaaDoor
