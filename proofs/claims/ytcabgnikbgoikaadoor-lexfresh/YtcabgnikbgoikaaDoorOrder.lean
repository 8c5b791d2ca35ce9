/- What spot.Compare answers, for every two places: the row order. Proved of the Go text. -/
import Derived.Test.YtcabgnikbgoikaaDoorPlaces
import Derived.StillTailTactics
namespace Go.Proofs.YtcabgnikbgoikaaDoor
open Go.RowKit Go.Sort
set_option linter.unusedVariables false

def ord1 (x y : Int) : Int := if x < y then -1 else if y < x then 1 else 0
def ord2 (a b c d : Int) : Int := if ord1 a c = 0 then ord1 b d else ord1 a c
theorem ord1_lt {x y : Int} (h : x < y) : ord1 x y = -1 := if_pos h
theorem ord1_gt {x y : Int} (h : y < x) : ord1 x y = 1 := by unfold ord1; rw [if_neg (by omega), if_pos h]
theorem ord1_eq {x y : Int} (h : x = y) : ord1 x y = 0 := by unfold ord1; rw [if_neg (by omega), if_neg (by omega)]

theorem still_tail {P : Program} {id : Nat} {Q : Exit → Act → World → Prop} {a : Act} {w : World} {l : List Oper} (n : Nat) (hm : P.follows .mixedOrders = true) (hB : Region.lexTailB .any l.toArray n = true)
    (h : wpStill P l.toArray w.drew (fun a' => wpList P l.toArray Q (l.drop n) a' w.drew) (l.take n) a) : (Code.region id l.toArray true).wp P Q a w := wp_region_still_tail n hm hB h
end Go.Proofs.YtcabgnikbgoikaaDoor
