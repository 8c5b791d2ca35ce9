/- whole.Text writes a number's decimal numeral, for every number of 64 bits; and the fixed calls ahead of each law answer as the document fixes them: proved of the Go text, given that strconv's table of powers is as its text lays it. -/
import Derived.Test.YtoedgailgejafaaDoorRows
import Derived.Test.YtoedgailgejafaaDoorMath
import Derived.Test.YtoedgailgejafaaDoorBytes
import Derived.Test.YtoedgailgejafaaDoorSums
import Derived.Test.YtoedgailgejafaaDoorRead
import Derived.Test.YtoedgailgejafaaDoorShelf
import Derived.WalkKit
import Derived.WalkSpells
import Derived.WalkLawsBesides
namespace Go.Proofs.YtoedgailgejafaaDoor
open Go.RowKit
set_option linter.unusedVariables false

/-- The table is as strconv's text lays it. -/
def Tab (w : World) : Prop := Lib.TabIs Tryd.prog w "internal/strconv.uint64pow10" .u64 Lib.pow10Tab
theorem gTab : Tryd.prog.globalNamed "internal/strconv.uint64pow10" = some 0 := by kernel_rfl
theorem tab_size {w : World} (h : Tab w) : 0 < w.heap.size := by
  unfold Tab Lib.TabIs World.var? at h
  simp only [gTab, Option.bind_some] at h
  by_cases hs : 0 < w.heap.size
  · exact hs
  · rw [Array.getElem?_eq_none (by omega)] at h
    simp at h
theorem tab_below {w w' : World} (h : Tab w) (hb : Below w.heap.size w w') : Tab w' := var?_below hb gTab (tab_size h) h

theorem below_grows (w : World) (k : Nat) (os : Array Obj) : Below w.heap.size w (Sort.grow (w.drewN k) os) :=
  ⟨rfl, rfl, rfl, by show w.heap.size ≤ (w.heap ++ os).size; rw [Array.size_append]; omega, fun i hi => by show (w.heap ++ os)[i]? = _; rw [Array.getElem?_append, if_pos hi]⟩

set_option maxHeartbeats 400000 in
theorem text_any (n : Int) (w : World) (h0 : -9223372036854775808 ≤ n) (h1 : n ≤ 9223372036854775807) (ht : Tab w) :
    Calls Tryd.prog 26 #[.int .i64 n] w fun e w' => e = .returned (.string ⟨(Lib.itoa n).toArray⟩) ∧ Below w.heap.size w w' := by
  have HT := hide (Tryd.strconv_FormatInt_10 n h0 h1 w ht)
  clear ht
  go_enter Tryd.func26, Tryd.ntmps26
  go_wp2_with (go_at_call 39; refine HT.out.mono ?_; rintro e w' ⟨rfl, k, os, rfl⟩)
  go_ret
  exact ⟨rfl, below_grows w k os⟩

theorem itoa_m5 : Lib.itoa (-5) = [45, 53] := by
  have : Lib.itoa (-5) = 45 :: Lib.decDigits 5 := by decide +kernel
  rw [this, Lib.decDigits_one (by decide)]; rfl

def s007 : ByteArray := ⟨#[48, 48, 55]⟩
def sm12 : ByteArray := ⟨#[45, 49, 50]⟩
theorem read007 (w : World) : Calls Tryd.prog 27 #[.string { data := #[48, 48, 55] }] w fun e w' => e = .returned (.tuple #[.int .i64 0, .int .i64 12]) ∧ w' = w :=
  read_bad s007 w (by decide +kernel) (by decide +kernel)
theorem readm12 (w : World) : Calls Tryd.prog 27 #[.string { data := #[45, 49, 50] }] w fun e w' => e = .returned (.tuple #[.int .i64 (-12), .int .i64 0]) ∧ w' = w :=
  read_neg sm12 ⟨#[49, 50]⟩ w (by decide +kernel) (by decide +kernel) (by decide +kernel) (by decide +kernel) (by decide +kernel) (by decide +kernel)

set_option maxHeartbeats 1000000 in
theorem begun_any (w : World) (ht : Tab w) :
    Calls Tryd.prog 9 #[] w fun e w' => e = .returned (.bool true) ∧ Below w.heap.size w w' := by
  have HT := hide (text_any (-5) w (by decide) (by decide) ht)
  rw [itoa_m5] at HT
  clear ht
  go_enter Tryd.func9, Tryd.ntmps9
  go_wp2_with (first
    | (go_at_call 11; refine (add32_no 2147483647 1 _ (by decide) (by decide) (by decide) (by decide) (by decide)).mono ?_; rintro e w' ⟨rfl, rfl⟩)
    | (go_at_call 19; refine (add64_yes 2147483647 1 _ (by decide) (by decide) (by decide) (by decide) (by decide) (by decide)).mono ?_; rintro e w' ⟨rfl, rfl⟩)
    | (go_at_call 24; go_in)
    | (go_at_call 25; go_in))
  refine (read007 _).mono ?_
  rintro e w' ⟨rfl, rfl⟩
  go_wp2_with fail
  refine (readm12 _).mono ?_
  rintro e w' ⟨rfl, rfl⟩
  go_wp2_with (go_at_call 26; refine HT.out.mono ?_; rintro e w' ⟨rfl, hb⟩)
  go_ret
  exact ⟨rfl, hb⟩
end Go.Proofs.YtoedgailgejafaaDoor
