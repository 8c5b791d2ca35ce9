/- The reference's Read and Text answer as package whole's do, for every text and every number: out of the contracts of both. -/
import Derived.Test.YtgnmkhjilecdhaaGreatDoorRefG
import Derived.Test.YtgnmkhjilecdhaaGreatDoorRefF
namespace Go.Proofs.YtgnmkhjilecdhaaGreatDoor
open Go.RowKit Go.Sort
set_option linter.unusedVariables false

theorem over19 (l : List UInt8) (h : numL l = true) (hl : 19 < l.length) : 10000000000000000000 ≤ val l := by
  apply Classical.byContradiction
  intro hc
  have h1 := dec_len 18 (val l) (by omega)
  rw [(dec_val l h).1] at h1
  omega
theorem sign_not_zero (s : ByteArray) (hp : 0 < s.size) (h1 : ((s[0].toNat : Int) == 45) = true) : (s.toList == [48]) = false := by
  obtain ⟨r, hr⟩ := toList_cons s hp
  rw [eq_45, beq_iff_eq] at h1
  rw [ByteArray.toList_eq, hr, h1]
  rfl
end Go.Proofs.YtgnmkhjilecdhaaGreatDoor
