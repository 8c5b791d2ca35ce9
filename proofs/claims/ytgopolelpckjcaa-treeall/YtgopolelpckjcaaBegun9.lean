/- The law's begun: calls whose answers the document fixes. -/
import Derived.Test.YtgopolelpckjcaaSameT9
import Derived.Test.YtgopolelpckjcaaCopyT9
import Derived.Test.YtgopolelpckjcaaReadT9
import Derived.Test.YtgopolelpckjcaaEq9
import Derived.Test.YtgopolelpckjcaaPartsN9
namespace Go.Proofs.Ytgopolelpckjcaa
open Go.RowKit Go.Sort
set_option linter.unusedVariables false

abbrev ndO : Nd := ⟨1, 0, 1, no, ⟨0, 0, false, false⟩, ⟨0, 0, false, false⟩, 0⟩
abbrev ndG : Nd := ⟨6, 0, 0, no, ⟨1, 1, false, false⟩, ⟨0, 0, false, false⟩, 0⟩
abbrev ndM : Nd := ⟨9, 0, 0, no, ⟨0, 0, false, false⟩, ⟨0, 0, false, false⟩, 54⟩
abbrev ndN : Nd := ⟨1, 0, -1, no, ⟨0, 0, false, false⟩, ⟨0, 0, false, false⟩, 0⟩
def oneT : Ex := .mk ndO []
def sumT : Ex := .mk ndM [.mk ndG [], oneT]
def negT : Ex := .mk ndN []
theorem size_sum : sizeR sumT = (3, 2, 0) := by decide +kernel
theorem fit_sum : fitB sumT = true := by decide +kernel
theorem fit_one : fitB oneT = true := by decide +kernel
theorem may_sum : mayR sumT = 0 := by decide +kernel
theorem may_neg : mayR negT = 22 := by decide +kernel
theorem reads_sum : readsE sumT = [(0, 0, 1, 1)] := by decide +kernel
theorem same_sum : sameE sumT sumT = true := by decide +kernel
theorem same_one : sameE sumT oneT = false := by decide +kernel
set_option maxRecDepth 100000 in
theorem sum_tree (w : World) : Tree (((w.alloc (.cells #[.int .i64 1, .int .i64 0, .int .i64 1, .string { data := #[] }, .int .i64 0, .int .i64 0, .bool false, .bool false, .int .i64 0, .int .i64 0, .bool false, .bool false, .int .i64 0, .slice none 0 0] 29)).alloc (.cells #[.int .i64 6, .int .i64 0, .int .i64 0, .string { data := #[] }, .int .i64 1, .int .i64 1, .bool false, .bool false, .int .i64 0, .int .i64 0, .bool false, .bool false, .int .i64 0, .slice none 0 0, .int .i64 1, .int .i64 0, .int .i64 1, .string { data := #[] }, .int .i64 0, .int .i64 0, .bool false, .bool false, .int .i64 0, .int .i64 0, .bool false, .bool false, .int .i64 0, .slice none 0 0] 29)).alloc (.cells #[.int .i64 9, .int .i64 0, .int .i64 0, .string { data := #[] }, .int .i64 0, .int .i64 0, .bool false, .bool false, .int .i64 0, .int .i64 0, .bool false, .bool false, .int .i64 54, .slice (some ⟨w.heap.size + 1, 0, none⟩) 2 2] 29)) (exV ndM (.slice (some ⟨w.heap.size + 1, 0, none⟩) 2 2)) sumT := by
  have hrow : (((w.alloc (.cells #[.int .i64 1, .int .i64 0, .int .i64 1, .string { data := #[] }, .int .i64 0, .int .i64 0, .bool false, .bool false, .int .i64 0, .int .i64 0, .bool false, .bool false, .int .i64 0, .slice none 0 0] 29)).alloc (.cells #[.int .i64 6, .int .i64 0, .int .i64 0, .string { data := #[] }, .int .i64 1, .int .i64 1, .bool false, .bool false, .int .i64 0, .int .i64 0, .bool false, .bool false, .int .i64 0, .slice none 0 0, .int .i64 1, .int .i64 0, .int .i64 1, .string { data := #[] }, .int .i64 0, .int .i64 0, .bool false, .bool false, .int .i64 0, .int .i64 0, .bool false, .bool false, .int .i64 0, .slice none 0 0] 29)).alloc (.cells #[.int .i64 9, .int .i64 0, .int .i64 0, .string { data := #[] }, .int .i64 0, .int .i64 0, .bool false, .bool false, .int .i64 0, .int .i64 0, .bool false, .bool false, .int .i64 54, .slice (some ⟨w.heap.size + 1, 0, none⟩) 2 2] 29)).heap[w.heap.size + 1]? = some (.cells #[.int .i64 6, .int .i64 0, .int .i64 0, .string { data := #[] }, .int .i64 1, .int .i64 1, .bool false, .bool false, .int .i64 0, .int .i64 0, .bool false, .bool false, .int .i64 0, .slice none 0 0, .int .i64 1, .int .i64 0, .int .i64 1, .string { data := #[] }, .int .i64 0, .int .i64 0, .bool false, .bool false, .int .i64 0, .int .i64 0, .bool false, .bool false, .int .i64 0, .slice none 0 0] 29 (0, 0)) := (Blk.new1 w (.cells #[.int .i64 1, .int .i64 0, .int .i64 1, .string { data := #[] }, .int .i64 0, .int .i64 0, .bool false, .bool false, .int .i64 0, .int .i64 0, .bool false, .bool false, .int .i64 0, .slice none 0 0] 29) #[.int .i64 6, .int .i64 0, .int .i64 0, .string { data := #[] }, .int .i64 1, .int .i64 1, .bool false, .bool false, .int .i64 0, .int .i64 0, .bool false, .bool false, .int .i64 0, .slice none 0 0, .int .i64 1, .int .i64 0, .int .i64 1, .string { data := #[] }, .int .i64 0, .int .i64 0, .bool false, .bool false, .int .i64 0, .int .i64 0, .bool false, .bool false, .int .i64 0, .slice none 0 0] 29).alloc (.cells #[.int .i64 9, .int .i64 0, .int .i64 0, .string { data := #[] }, .int .i64 0, .int .i64 0, .bool false, .bool false, .int .i64 0, .int .i64 0, .bool false, .bool false, .int .i64 54, .slice (some ⟨w.heap.size + 1, 0, none⟩) 2 2] 29)
  unfold Tree sumT In
  refine ⟨_, 2, 2, rfl, rfl, by omega, by decide, .inr ⟨_, 0, rfl, by simp, ?_⟩⟩
  unfold Kids
  refine ⟨⟨exC ndG (.slice none 0 0), leaf_in _ _ ndG (by decide), ?_⟩, ?_⟩
  · exact World.rangeAt_of_block hrow 0 14
  · unfold Kids
    refine ⟨⟨exC ndO (.slice none 0 0), leaf_in _ _ ndO (by decide), ?_⟩, ?_⟩
    · exact World.rangeAt_of_block hrow 14 14
    · unfold Kids; trivial
theorem row_one {w : World} {B : Nat} {a : Option Addr} {len cap : Nat} (h : RowA w B (.slice a len cap) [(0, 0, 1, 1)]) : ∃ g, a = some ⟨g, 0, none⟩ ∧ len = 1 ∧ w.cell? ⟨g, 0, none⟩ = some (.int .i64 0) ∧ w.cell? ⟨g, 1, none⟩ = some (.int .i64 0) ∧ w.cell? ⟨g, 2, none⟩ = some (.int .i64 1) ∧ w.cell? ⟨g, 3, none⟩ = some (.int .i64 1) ∧ g < w.heap.size := by
  rcases h.2 with ⟨_, h⟩ | ⟨g, cap', cur, hv, _, hr, _, _, hz, ht⟩
  · cases h
  · simp only [Value.slice.injEq] at hv
    obtain ⟨rfl, rfl, rfl⟩ := hv
    have hc : ∀ j v, (flA [(0, 0, 1, 1)])[j]? = some v → w.cell? ⟨g, j, none⟩ = some v := fun j v hj => by
      rw [cell_of_row w g j cur _ _ hr, ← Array.getElem?_toList]
      rw [← ht, List.getElem?_take] at hj
      split at hj
      · exact hj
      · cases hj
    exact ⟨g, rfl, rfl, hc 0 _ rfl, hc 1 _ rfl, hc 2 _ rfl, hc 3 _ rfl, (Array.getElem?_eq_some_iff.1 hr).1⟩
theorem keep1 {W w1 : World} {b o : Nat} {v : Value} (hb : Below W.heap.size W w1) (h : W.cell? ⟨b, o, none⟩ = some v) : w1.cell? ⟨b, o, none⟩ = some v := by
  rw [hb.cell (p := ⟨b, o, none⟩) (block_lt_of_cell h)]; exact h
theorem reads_ok {w w' : World} {e : Ending} (h : ReadsP w sumT e w') : ∃ a len cap, e = .returned (.tuple #[.slice a len cap, .int .i64 0]) ∧ RowA w' (w.heap.size) (.slice a len cap) [(0, 0, 1, 1)] ∧ Below w.heap.size w w' := by
  rcases h with ⟨h, _⟩ | ⟨_, a, len, cap, he, hr, hb⟩
  · exact absurd may_sum h
  · rw [reads_sum] at hr
    exact ⟨a, len, cap, he, hr, hb⟩
theorem copy_ok {w w' : World} {e : Ending} (h : CopyP w sumT e w') : ∃ a len cap bs, e = .returned (.tuple #[exV ndM (.slice a len cap), .int .i64 0]) ∧ New w w' (exV ndM (.slice a len cap)) sumT bs ∧ Below w.heap.size w w' := by
  rcases h with ⟨h, _⟩ | ⟨_, h⟩
  · rw [fit_sum] at h; cases h
  · exact h
set_option maxHeartbeats 4000000 in
set_option maxRecDepth 100000 in
theorem begun9 (w : World) : Calls Try.prog 6 #[] w fun e w' => e = .returned (.bool true) ∧ Below w.heap.size w w' := by
  have T3 := hide (sum_tree w)
  have P1 : Blk (((w.alloc (.cells #[.int .i64 1, .int .i64 0, .int .i64 1, .string { data := #[] }, .int .i64 0, .int .i64 0, .bool false, .bool false, .int .i64 0, .int .i64 0, .bool false, .bool false, .int .i64 0, .slice none 0 0] 29)).alloc (.cells #[.int .i64 6, .int .i64 0, .int .i64 0, .string { data := #[] }, .int .i64 1, .int .i64 1, .bool false, .bool false, .int .i64 0, .int .i64 0, .bool false, .bool false, .int .i64 0, .slice none 0 0, .int .i64 1, .int .i64 0, .int .i64 1, .string { data := #[] }, .int .i64 0, .int .i64 0, .bool false, .bool false, .int .i64 0, .int .i64 0, .bool false, .bool false, .int .i64 0, .slice none 0 0] 29)).alloc (.cells #[.int .i64 9, .int .i64 0, .int .i64 0, .string { data := #[] }, .int .i64 0, .int .i64 0, .bool false, .bool false, .int .i64 0, .int .i64 0, .bool false, .bool false, .int .i64 54, .slice (some ⟨w.heap.size + 1, 0, none⟩) 2 2] 29)) w.heap.size (exC ndO (.slice none 0 0)) 29 := ((Blk.new w #[.int .i64 1, .int .i64 0, .int .i64 1, .string { data := #[] }, .int .i64 0, .int .i64 0, .bool false, .bool false, .int .i64 0, .int .i64 0, .bool false, .bool false, .int .i64 0, .slice none 0 0] 29).alloc (.cells #[.int .i64 6, .int .i64 0, .int .i64 0, .string { data := #[] }, .int .i64 1, .int .i64 1, .bool false, .bool false, .int .i64 0, .int .i64 0, .bool false, .bool false, .int .i64 0, .slice none 0 0, .int .i64 1, .int .i64 0, .int .i64 1, .string { data := #[] }, .int .i64 0, .int .i64 0, .bool false, .bool false, .int .i64 0, .int .i64 0, .bool false, .bool false, .int .i64 0, .slice none 0 0] 29)).alloc (.cells #[.int .i64 9, .int .i64 0, .int .i64 0, .string { data := #[] }, .int .i64 0, .int .i64 0, .bool false, .bool false, .int .i64 0, .int .i64 0, .bool false, .bool false, .int .i64 54, .slice (some ⟨w.heap.size + 1, 0, none⟩) 2 2] 29)
  have P2 : Blk (((w.alloc (.cells #[.int .i64 1, .int .i64 0, .int .i64 1, .string { data := #[] }, .int .i64 0, .int .i64 0, .bool false, .bool false, .int .i64 0, .int .i64 0, .bool false, .bool false, .int .i64 0, .slice none 0 0] 29)).alloc (.cells #[.int .i64 6, .int .i64 0, .int .i64 0, .string { data := #[] }, .int .i64 1, .int .i64 1, .bool false, .bool false, .int .i64 0, .int .i64 0, .bool false, .bool false, .int .i64 0, .slice none 0 0, .int .i64 1, .int .i64 0, .int .i64 1, .string { data := #[] }, .int .i64 0, .int .i64 0, .bool false, .bool false, .int .i64 0, .int .i64 0, .bool false, .bool false, .int .i64 0, .slice none 0 0] 29)).alloc (.cells #[.int .i64 9, .int .i64 0, .int .i64 0, .string { data := #[] }, .int .i64 0, .int .i64 0, .bool false, .bool false, .int .i64 0, .int .i64 0, .bool false, .bool false, .int .i64 54, .slice (some ⟨w.heap.size + 1, 0, none⟩) 2 2] 29)) (w.heap.size + 1 + 1) (exC ndM (.slice (some ⟨w.heap.size + 1, 0, none⟩) 2 2)) 29 := Blk.new2 w (.cells #[.int .i64 1, .int .i64 0, .int .i64 1, .string { data := #[] }, .int .i64 0, .int .i64 0, .bool false, .bool false, .int .i64 0, .int .i64 0, .bool false, .bool false, .int .i64 0, .slice none 0 0] 29) (.cells #[.int .i64 6, .int .i64 0, .int .i64 0, .string { data := #[] }, .int .i64 1, .int .i64 1, .bool false, .bool false, .int .i64 0, .int .i64 0, .bool false, .bool false, .int .i64 0, .slice none 0 0, .int .i64 1, .int .i64 0, .int .i64 1, .string { data := #[] }, .int .i64 0, .int .i64 0, .bool false, .bool false, .int .i64 0, .int .i64 0, .bool false, .bool false, .int .i64 0, .slice none 0 0] 29) #[.int .i64 9, .int .i64 0, .int .i64 0, .string { data := #[] }, .int .i64 0, .int .i64 0, .bool false, .bool false, .int .i64 0, .int .i64 0, .bool false, .bool false, .int .i64 54, .slice (some ⟨w.heap.size + 1, 0, none⟩) 2 2] 29
  have B3 : Below w.heap.size w (((w.alloc (.cells #[.int .i64 1, .int .i64 0, .int .i64 1, .string { data := #[] }, .int .i64 0, .int .i64 0, .bool false, .bool false, .int .i64 0, .int .i64 0, .bool false, .bool false, .int .i64 0, .slice none 0 0] 29)).alloc (.cells #[.int .i64 6, .int .i64 0, .int .i64 0, .string { data := #[] }, .int .i64 1, .int .i64 1, .bool false, .bool false, .int .i64 0, .int .i64 0, .bool false, .bool false, .int .i64 0, .slice none 0 0, .int .i64 1, .int .i64 0, .int .i64 1, .string { data := #[] }, .int .i64 0, .int .i64 0, .bool false, .bool false, .int .i64 0, .int .i64 0, .bool false, .bool false, .int .i64 0, .slice none 0 0] 29)).alloc (.cells #[.int .i64 9, .int .i64 0, .int .i64 0, .string { data := #[] }, .int .i64 0, .int .i64 0, .bool false, .bool false, .int .i64 0, .int .i64 0, .bool false, .bool false, .int .i64 54, .slice (some ⟨w.heap.size + 1, 0, none⟩) 2 2] 29)) := step (step (step (Below.refl _ w) _) _) _
  have S3 : (((w.alloc (.cells #[.int .i64 1, .int .i64 0, .int .i64 1, .string { data := #[] }, .int .i64 0, .int .i64 0, .bool false, .bool false, .int .i64 0, .int .i64 0, .bool false, .bool false, .int .i64 0, .slice none 0 0] 29)).alloc (.cells #[.int .i64 6, .int .i64 0, .int .i64 0, .string { data := #[] }, .int .i64 1, .int .i64 1, .bool false, .bool false, .int .i64 0, .int .i64 0, .bool false, .bool false, .int .i64 0, .slice none 0 0, .int .i64 1, .int .i64 0, .int .i64 1, .string { data := #[] }, .int .i64 0, .int .i64 0, .bool false, .bool false, .int .i64 0, .int .i64 0, .bool false, .bool false, .int .i64 0, .slice none 0 0] 29)).alloc (.cells #[.int .i64 9, .int .i64 0, .int .i64 0, .string { data := #[] }, .int .i64 0, .int .i64 0, .bool false, .bool false, .int .i64 0, .int .i64 0, .bool false, .bool false, .int .i64 54, .slice (some ⟨w.heap.size + 1, 0, none⟩) 2 2] 29)).heap.size = w.heap.size + 1 + 1 + 1 := by simp
  obtain ⟨w3, hw3⟩ : ∃ w3, (((w.alloc (.cells #[.int .i64 1, .int .i64 0, .int .i64 1, .string { data := #[] }, .int .i64 0, .int .i64 0, .bool false, .bool false, .int .i64 0, .int .i64 0, .bool false, .bool false, .int .i64 0, .slice none 0 0] 29)).alloc (.cells #[.int .i64 6, .int .i64 0, .int .i64 0, .string { data := #[] }, .int .i64 1, .int .i64 1, .bool false, .bool false, .int .i64 0, .int .i64 0, .bool false, .bool false, .int .i64 0, .slice none 0 0, .int .i64 1, .int .i64 0, .int .i64 1, .string { data := #[] }, .int .i64 0, .int .i64 0, .bool false, .bool false, .int .i64 0, .int .i64 0, .bool false, .bool false, .int .i64 0, .slice none 0 0] 29)).alloc (.cells #[.int .i64 9, .int .i64 0, .int .i64 0, .string { data := #[] }, .int .i64 0, .int .i64 0, .bool false, .bool false, .int .i64 0, .int .i64 0, .bool false, .bool false, .int .i64 54, .slice (some ⟨w.heap.size + 1, 0, none⟩) 2 2] 29)) = w3 := ⟨_, rfl⟩
  rw [hw3] at T3 P1 P2 B3 S3
  have H1 := hide (fun w' (h : Below w3.heap.size w3 w') => size_any sumT _ w' (T3.out.step h))
  have H2 := hide (fun w' (h : Below w3.heap.size w3 w') => reads_any sumT _ w' (T3.out.step h))
  have H3 := hide (fun w' (h : Below w3.heap.size w3 w') => copy_any sumT _ w' (T3.out.step h))
  have H4 := hide (fun w' (h : Below w3.heap.size w3 w') => may_any sumT _ w' (T3.out.step h))
  have H5 := hide (fun w' => may_any negT _ w' (leaf_tree w' ndN (by decide)))
  have H6 := hide (fun w' v (hv : Tree w' v sumT) (h : Below w3.heap.size w3 w') => eq_any sumT sumT _ _ w' hv (T3.out.step h))
  have H7 := hide (fun w' (h : Below w3.heap.size w3 w') => same_any sumT sumT _ _ w' (T3.out.step h) (T3.out.step h))
  have H8 := hide (fun w' (h : Below w3.heap.size w3 w') => same_any sumT oneT _ _ w' (T3.out.step h) (leaf_tree w' ndO (by decide)))
  have SM := hide (In.sm sumT T3.out)
  simp only [size_sum, may_sum, may_neg, same_sum, same_one, fit_sum, fit_one, Bool.and_true, Bool.and_false] at H1 H4 H5 H6 H7 H8
  replace P1 := hide P1
  replace P2 := hide P2
  replace B3 := hide B3
  replace S3 := hide S3
  go_enter Try.func6, Try.ntmps6
  go_wp2_with (first
    | (refine wpList_load_blk rfl 29 _ rfl _ rfl _ (by with_reducible exact P2.out) _ Try.underlying29 rfl (exC_info _ _) ?_)
    | (go_at_call 15; refine (H1.out _ (Below.refl _ _)).mono ?_; rintro e wa ⟨rfl, ba⟩; have Pa := hide (P2.out.keep ba); replace ba := hide ba)
    | (refine wpList_load_blk rfl 29 _ rfl _ rfl _ (by with_reducible exact Pa.out) _ Try.underlying29 rfl (exC_info _ _) ?_)
    | (go_at_call 11; refine (H2.out _ ba.out).mono ?_; rintro e wb hb0; obtain ⟨la, ll, lc, rfl, hrow, hb⟩ : ∃ a len cap, e = .returned (.tuple #[.slice a len cap, .int .i64 0]) ∧ RowA wb (wa.heap.size) (.slice a len cap) [(0, 0, 1, 1)] ∧ Below wa.heap.size wa wb := reads_ok hb0; clear hb0; obtain ⟨g, rfl, rfl, g0, g1, g2, g3, gl⟩ := row_one hrow; have Pb := hide (Pa.out.keep hb); have bb := hide (next ba.out hb); clear hrow hb; replace g0 := hide g0; replace g1 := hide g1; replace g2 := hide g2; replace g3 := hide g3)
    | (refine wpList_load_blk rfl 29 _ rfl _ rfl _ (by with_reducible exact Pb.out) _ Try.underlying29 rfl (exC_info _ _) ?_)
    | (go_at_call 10; refine (H3.out _ bb.out).mono ?_; rintro e wc hc0; obtain ⟨ca, cl, cc, bs, rfl, hN, hc⟩ : ∃ a len cap bs, e = .returned (.tuple #[exV ndM (.slice a len cap), .int .i64 0]) ∧ New wb wc (exV ndM (.slice a len cap)) sumT bs ∧ Below wb.heap.size wb wc := copy_ok hc0; clear hc0; have hsn := run_putnew wc ndM ca cl cc; have bd := hide (step (next bb.out hc) (exO ndM (.slice ca cl cc))); have Tc := hide (Tree.step (w := wc) (Ow.in' sumT hN.ow (fun k hk => (hN.at' k hk).2) SM.out) (step (Below.refl _ wc) (exO ndM (.slice ca cl cc)))); have P8 := hide (Blk.new wc (exC ndM (.slice ca cl cc)) 29); have Pd := hide ((Pb.out.keep hc).alloc (exO ndM (.slice ca cl cc))); have bcd := hide (step hc (exO ndM (.slice ca cl cc))); clear hN hc)
    | (refine wpList_load_blk rfl 29 _ rfl _ rfl _ (by with_reducible exact Pd.out) _ Try.underlying29 rfl (exC_info _ _) ?_)
    | (have hq := bd; go_at_call 14; refine (H4.out _ bd.out).mono ?_; rintro e we ⟨rfl, he⟩; have be := hide (next bd.out he); have bce := hide (next bcd.out he); have Pe := hide (Pd.out.keep he); have P8e := hide (P8.out.keep he); have Te := hide (Tc.out.step he); clear he bd)
    | (have hq := be; go_at_call 14; refine (H5.out _).mono ?_; rintro e wf ⟨rfl, hf⟩; have bf := hide (next be.out hf); have bcf := next bce.out hf; have Pf := hide (Pe.out.keep hf); have P8f := hide (P8e.out.keep hf); have Tf := hide (Te.out.step hf); have k0 := keep1 bcf g0.out; have k1 := keep1 bcf g1.out; have k2 := keep1 bcf g2.out; have k3 := keep1 bcf g3.out; clear hf bcf)
    | (refine wpList_load_blk_g rfl 29 _ rfl _ rfl _ (by with_reducible exact P8f.out) _ Try.underlying29 rfl (exC_info _ _) ?_)
    | (refine wpList_load_blk_g rfl 29 _ rfl _ rfl _ (by with_reducible exact Pf.out) _ Try.underlying29 rfl (exC_info _ _) ?_)
    | (go_at_call 12; refine (H6.out _ _ Tf.out bf.out).mono ?_; rintro e wg ⟨rfl, hg⟩; have bg := hide (next bf.out hg); have Pg := hide (Pf.out.keep hg); clear hg)
    | (refine wpList_load_blk_g rfl 29 _ rfl _ rfl _ (by with_reducible exact Pg.out) _ Try.underlying29 rfl (exC_info _ _) ?_)
    | (have hq := bg; go_at_call 16; refine (H7.out _ bg.out).mono ?_; rintro e wh ⟨rfl, hh⟩; have bh := hide (next bg.out hh); have Ph := hide (Pg.out.keep hh); have P1h := hide (P1.out.keep bh.out); clear hh bg)
    | (refine wpList_load_blk_g rfl 29 _ rfl _ rfl _ (by with_reducible exact Ph.out) _ Try.underlying29 rfl (exC_info _ _) ?_)
    | (refine wpList_load_blk_g rfl 29 _ rfl _ rfl _ (by with_reducible exact P1h.out) _ Try.underlying29 rfl (exC_info _ _) ?_)
    | (have hq := bh; go_at_call 16; refine (H8.out _ bh.out).mono ?_; rintro e wi ⟨rfl, hi⟩; have bi := hide (next bh.out hi)))
  go_ret
  exact ⟨rfl, next B3.out bi.out⟩
end Go.Proofs.Ytgopolelpckjcaa
