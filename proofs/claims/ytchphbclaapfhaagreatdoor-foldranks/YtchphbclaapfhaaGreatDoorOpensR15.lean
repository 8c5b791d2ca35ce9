/- FoldRanks for every slice of numbers that is handed in, and every k. -/
import Derived.Test.YtchphbclaapfhaaGreatDoorFoldRanks
import Derived.Test.YtchphbclaapfhaaGreatDoorOpensI15
namespace Go.Proofs.YtchphbclaapfhaaGreatDoor
open Go.ChangeShapes Go.WideShapes Go.ChangeAt Go.RowKit
set_option linter.unusedVariables false

theorem foldRanks_walk (a : Option Addr) (len cap : Nat) (x : Int) (W : World) (h : len ≤ cap ∧ ∃ ns : List Int, ns.length = len ∧ (∀ x ∈ ns, -9223372036854775808 ≤ x ∧ x ≤ 9223372036854775807) ∧ IntsAt W a ns) (hx1 : 0 ≤ x) (hx2 : x ≤ 255) : Calls Tryz.prog 4 #[.slice a len cap, .int .u8 x] W fun e w' => e = .returned (.bool true) ∧ Below W.heap.size W w' := by
  obtain ⟨hc, ns, rfl, hb, hi⟩ := h
  obtain ⟨k, rfl⟩ : ∃ k : Nat, x = (k : Int) := ⟨x.toNat, by omega⟩
  have hk : k < 256 := by omega
  by_cases h3 : ns.length ≤ 300
  · exact fr_walk ns k hk a cap _ (fun w hw => column_s ns _ h3 rfl a cap w hw) h3 hb W hi
  · have hl : (ns.take 300).length = 300 := by rw [List.length_take]; omega
    obtain ⟨b, o, hab⟩ : ∃ b o, a = some ⟨b, o, none⟩ := by
      rcases hi with h | ⟨b, o, h, _⟩
      · rw [h] at h3; simp at h3
      · exact ⟨b, o, h⟩
    refine fr_walk (ns.take 300) k hk a cap _ (fun w hw => ?_) (by omega) (fun x hx => hb x (List.mem_of_mem_take hx)) W (hi.take 300)
    have := column_g (ns.take 300) hl ns.length (by omega) a cap w hw hc b o hab
    rw [hl]
    exact this
end Go.Proofs.YtchphbclaapfhaaGreatDoor
