/- FoldIfs for every two slices of numbers that are handed in, every number and every place. -/
import Derived.Test.YtnpdkojhlgchlaaGreatDoorFoldIfs
import Derived.Test.YtnpdkojhlgchlaaGreatDoorOpensI15
namespace Go.Proofs.YtnpdkojhlgchlaaGreatDoor
open Go.ChangeShapes Go.WideShapes Go.ChangeAt Go.RowKit
set_option linter.unusedVariables false

theorem foldIfs_walk (a : Option Addr) (len cap : Nat) (am : Option Addr) (lenm capm : Nat) (x b : Int) (W : World) (h : len ≤ cap ∧ ∃ ns : List Int, ns.length = len ∧ (∀ x ∈ ns, -9223372036854775808 ≤ x ∧ x ≤ 9223372036854775807) ∧ IntsAt W a ns) (hM : lenm ≤ capm ∧ ∃ ns : List Int, ns.length = lenm ∧ (∀ x ∈ ns, -9223372036854775808 ≤ x ∧ x ≤ 9223372036854775807) ∧ IntsAt W am ns) (hx1 : -9223372036854775808 ≤ x) (hx2 : x ≤ 9223372036854775807) (hb1 : 0 ≤ b) (hb2 : b ≤ 255) : Calls Tryz.prog 4 #[.slice a len cap, .slice am lenm capm, .int .i64 x, .int .u8 b] W fun e w' => e = .returned (.bool true) ∧ Below W.heap.size W w' := by
  obtain ⟨hc, ns, rfl, hb, hi⟩ := h
  obtain ⟨_, ms, rfl, _, hj⟩ := hM
  obtain ⟨k, rfl⟩ : ∃ k : Nat, b = (k : Int) := ⟨b.toNat, by omega⟩
  have hk : k < 256 := by omega
  by_cases h3 : ns.length ≤ 300
  · exact fi_walk ns ms x k hk hx1 hx2 a am cap _ _ capm rfl (fun w hw => column_s ns _ h3 rfl a cap w hw) h3 hb W hi hj
  · have hl : (ns.take 300).length = 300 := by rw [List.length_take]; omega
    obtain ⟨b, o, hab⟩ : ∃ b o, a = some ⟨b, o, none⟩ := by
      rcases hi with h | ⟨b, o, h, _⟩
      · rw [h] at h3; simp at h3
      · exact ⟨b, o, h⟩
    refine fi_walk (ns.take 300) ms x k hk hx1 hx2 a am cap _ _ capm rfl (fun w hw => ?_) (by omega) (fun x hx => hb x (List.mem_of_mem_take hx)) W (hi.take 300) hj
    have := column_g (ns.take 300) hl ns.length (by omega) a cap w hw hc b o hab
    rw [hl]
    exact this
end Go.Proofs.YtnpdkojhlgchlaaGreatDoor
