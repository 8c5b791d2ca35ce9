/- Ways through the law SpotBegins for texts that are too long, and for one that begins with no reference. -/
import Derived.Test.YtjhfjpofmkofhaaDoorFrame2
import Derived.Test.YtjhfjpofmkofhaaDoorCapitals
import Derived.Test.YtjhfjpofmkofhaaDoorBeginsDefs
namespace Go.Proofs.YtjhfjpofmkofhaaDoor
open Go.RowKit Go.Sort
set_option linter.unusedVariables false

set_option maxHeartbeats 2000000 in
set_option maxRecDepth 100000 in
theorem begins_ls (s more : ByteArray) (w : World) (h : 1048576 < s.size) (zs : s.size ≤ maxLen) (zm : more.size ≤ maxLen) (HB : BegunAt w) :
    Calls Tryd.prog 5 #[.string s, .string more] w fun e w' => e = .returned (.bool true) ∧ Below w.heap.size w w' := by
  have zm' : more.size ≤ 9223372036854775807 := zm
  have zs' : s.size ≤ 9223372036854775807 := by first | exact zs | omega
  have y : (1048576 : Int) < s.size := by omega
  clear zm
  go_enter Tryd.func5, Tryd.ntmps5
  try simp only [List.append]
  go_wp2_with fail
  refine (HB.out _ (Below.refl _ _)).mono ?_
  rintro r w1 ⟨rfl, B1⟩
  go_wp2_with fail
  go_ret
  exact ⟨rfl, B1⟩

set_option maxHeartbeats 2000000 in
set_option maxRecDepth 100000 in
theorem begins_lm (s more : ByteArray) (w : World) (h0 : s.size ≤ 1048576) (h : 1048576 < more.size) (zm : more.size ≤ maxLen) (HB : BegunAt w) :
    Calls Tryd.prog 5 #[.string s, .string more] w fun e w' => e = .returned (.bool true) ∧ Below w.heap.size w w' := by
  have zm' : more.size ≤ 9223372036854775807 := zm
  have zs' : s.size ≤ 9223372036854775807 := by first | exact zs | omega
  have y0 : ¬ (1048576 : Int) < s.size := by omega
  have y : (1048576 : Int) < more.size := by omega
  clear zm
  go_enter Tryd.func5, Tryd.ntmps5
  try simp only [List.append]
  go_wp2_with fail
  refine (HB.out _ (Below.refl _ _)).mono ?_
  rintro r w1 ⟨rfl, B1⟩
  go_wp2_with fail
  go_ret
  exact ⟨rfl, B1⟩

set_option maxHeartbeats 2000000 in
set_option maxRecDepth 100000 in
theorem begins_syn (s more : ByteArray) (w : World) (zs : s.size ≤ 1048576) (zm : more.size ≤ 1048576) (HB : BegunAt w) (HR : ReadRefIs s 0 0 false false 0 20) :
    Calls Tryd.prog 5 #[.string s, .string more] w fun e w' => e = .returned (.bool true) ∧ Below w.heap.size w w' := by
  have zs' : s.size ≤ 9223372036854775807 := by omega
  have zm' : more.size ≤ 9223372036854775807 := by omega
  have ys : ¬ (1048576 : Int) < s.size := by omega
  have ym : ¬ (1048576 : Int) < more.size := by omega
  have i2 : ¬ (s.size : Int) < 0 := by omega
  go_enter Tryd.func5, Tryd.ntmps5
  try simp only [List.append]
  go_wp2_with fail
  refine (HB.out _ (Below.refl _ _)).mono ?_
  rintro r w1 ⟨rfl, B1⟩
  go_wp2_with fail
  refine (HR.out _).mono ?_
  rintro r w2 ⟨rfl, hb2⟩
  have B2 := hide (next B1 hb2)
  clear B1 hb2
  go_wp2_with fail
  go_ret
  exact ⟨rfl, step B2.out _⟩

end Go.Proofs.YtjhfjpofmkofhaaDoor
