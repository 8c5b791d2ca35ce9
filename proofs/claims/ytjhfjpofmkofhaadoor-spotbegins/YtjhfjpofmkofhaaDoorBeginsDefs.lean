/- What the ways through the law SpotBegins take of its callees. -/
import Derived.Test.YtjhfjpofmkofhaaDoorPlaces
namespace Go.Proofs.YtjhfjpofmkofhaaDoor
open Go.RowKit
abbrev BegunAt (w : World) : Prop := Hid (∀ w1, Below w.heap.size w w1 → Calls Tryd.prog 8 #[] w1 fun e w' => e = .returned (.bool true) ∧ Below w1.heap.size w1 w')
abbrev RefTextAt (w : World) (r c : Int) (p q : Bool) (s : ByteArray) (e : Int) : Prop := Hid (∀ w1, Below w.heap.size w w1 → Calls Tryd.prog 11 #[refV r c p q] w1 fun e' w' => e' = .returned (.tuple #[.string s, .int .i64 e]) ∧ Below w1.heap.size w1 w')
abbrev ReadRefIs (s : ByteArray) (r c : Int) (p q : Bool) (n e : Int) : Prop := Hid (∀ w, Calls Tryd.prog 14 #[.string s] w fun e' w' => e' = .returned (.tuple #[refV r c p q, .int .i64 n, .int .i64 e]) ∧ Below w.heap.size w w')
abbrev CapsIs (s t : ByteArray) : Prop := Hid (∀ w, Calls Tryd.prog 16 #[.string s] w fun e' w' => e' = .returned (.string t) ∧ Below w.heap.size w w')
end Go.Proofs.YtjhfjpofmkofhaaDoor
