/- quadrilleref12.Paste, Rows, Cols: what they answer of every tree. -/
import Derived.Test.YtnikmbkkhfmbeaaR12f
import Derived.Test.YtnikmbkkhfmbeaaRAll9
import Derived.Test.YtnikmbkkhfmbeaaWkJ
namespace Go.Proofs.Ytnikmbkkhfmbeaa
open Go.RowKit Go.Sort
set_option linter.unusedVariables false

/-- What the document's three answer: an error, or a tree. -/
def RfP (N : Nat) (w : World) (er : Int) (t : Ex) (e : Ending) (w' : World) : Prop :=
  (er ≠ 0 ∧ e = .returned (.tuple #[exV nd0 (.slice none 0 0), .int .i64 er]) ∧ Below w.heap.size w w') ∨
  (er = 0 ∧ ∃ a len cap, e = .returned (.tuple #[exV t.nd (.slice a len cap), .int .i64 0]) ∧ In (OldN N w.heap.size w'.heap.size) w' (exV t.nd (.slice a len cap)) t ∧ Below w.heap.size w w')
theorem rf_fin {N : Nat} {w wA w1 w2 : World} {t : Ex} (hN : N ≤ w.heap.size) (hA : Below w.heap.size w wA) (hAs : wA.heap.size = w.heap.size + 2) (P : Blk wA (w.heap.size + 1) (exC nd0 (.slice none 0 0)) 29) (h1 : Below wA.heap.size wA w1) {a : Option Addr} {len cap : Nat} (hI : In (OldN N w1.heap.size w2.heap.size) w2 (exV t.nd (.slice a len cap)) t) (h2 : Below w1.heap.size w1 w2) :
    Blk w2 (w.heap.size + 1) (exC nd0 (.slice none 0 0)) 29 ∧ In (OldN N w.heap.size (w2.setRow (w.heap.size + 1) (exC t.nd (.slice a len cap))).heap.size) (w2.setRow (w.heap.size + 1) (exC t.nd (.slice a len cap))) (exV t.nd (.slice a len cap)) t ∧ Below w.heap.size w (w2.setRow (w.heap.size + 1) (exC t.nd (.slice a len cap))) := by
  have hs1 := h1.size
  have hs2 := h2.size
  refine ⟨(P.keep h1).keep h2, hI.move (fun x hx => ⟨by rw [size_setRow]; rcases hx with hx | hx; exact .inl hx; exact .inr ⟨by omega, hx.2⟩, setRow_other _ _ _ _ (by rcases hx with hx | hx <;> omega)⟩), below_setRow (next (next hA h1) h2) (by omega) _⟩
set_option maxHeartbeats 2000000 in
set_option maxRecDepth 100000 in
theorem rpaste_any (t : Ex) (v : Value) (x y : Int) (N : Nat) (w : World) (hN : N ≤ w.heap.size) (hi : In (· < N) w v t) : Calls Try.prog 20 #[v, .int .i64 x, .int .i64 y] w fun e w' => RfP N w (mayR t) (movE (pasR x y) t) e w' := by
  have ht : Tree w v t := hi.move (fun k hk => ⟨Nat.lt_of_lt_of_le hk hN, rfl⟩)
  obtain ⟨a0, l0, c0, rfl, -, -, -, -⟩ := ht.open
  replace hi := hide hi
  have B2 := hide (step (step (Below.refl w.heap.size w) (exO t.nd (.slice a0 l0 c0))) (exO nd0 (.slice none 0 0)))
  have S2 : Hid (((w.alloc (exO t.nd (.slice a0 l0 c0))).alloc (exO nd0 (.slice none 0 0))).heap.size = w.heap.size + 2) := hide (by simp)
  have P0 := hide ((Blk.new w (exC t.nd (.slice a0 l0 c0)) 29).alloc (exO nd0 (.slice none 0 0)))
  have P1 := hide (Blk.new1 w (exO t.nd (.slice a0 l0 c0)) (exC nd0 (.slice none 0 0)) 29)
  have HM := hide (rmay_any t _ _ (ht.step B2.out))
  by_cases hm : ¬ mayR t = 0
  · skip
    have hne : (mayR t != 0) = true := by simp [hm]
    have hne' : (mayR t == 0) = false := by simp [hm]
    have hm' := hide hm
    clear hm ht
    generalize mayR t = m at *
    go_enter Try.func20, Try.ntmps20
    go_wp2_with (first
      | (refine wpList_load_blk rfl 29 _ rfl _ rfl _ P0.out _ Try.underlying29 rfl (exC_info _ _) ?_)
      | (go_at_call 35; refine HM.out.mono ?_; rintro e w1 ⟨rfl, hb⟩; have N1 := hide (P1.out.keep hb); have b1 := hide (next B2.out hb); clear hb)
      | (have hn1 := N1.out; refine wpList_store_row rfl 29 _ _ rfl _ (exC nd0 (.slice none 0 0)) rfl rfl 29 _ hn1 (exC_info nd0 (.slice none 0 0)) (by rfl) (exC_one nd0 none 0 0) ?_))
    have hrl := run_blk (N1.out.setRow (cs := exC nd0 (.slice none 0 0))) rfl
    refine bodyPost_ret (v := .tuple #[exV nd0 (.slice none 0 0), .int .i64 m]) (by simp [results, Try.results20, asAddr, hrl]; try rfl) rfl ?_
    exact .inl ⟨hm'.out, rfl, below_setRow b1.out (by omega) _⟩
  replace hm := Classical.byContradiction hm
  rw [hm] at HM
  rw [hm]
  obtain ⟨hfit, hall⟩ := may_parts hm
  have hn : nodesE t ≤ 512 := (of_decide_eq_true hfit).1
  have HA : Hid (∀ w1, Below ((w.alloc (exO t.nd (.slice a0 l0 c0))).alloc (exO nd0 (.slice none 0 0))).heap.size ((w.alloc (exO t.nd (.slice a0 l0 c0))).alloc (exO nd0 (.slice none 0 0))) w1 → Calls Try.prog 36 #[mvV 1 x y 0 0, exV t.nd (.slice a0 l0 c0)] w1 fun e w' => AllP N w1 (movE (pasR x y) t) e w') := hide (fun w1 hb => all_any (.inl ⟨rfl, rfl⟩ : Mvd 1 x y 0 0 (pasR x y)) t N _ w1 (hi.out.move (fun k hk => ⟨hk, (next B2.out hb).block k (Nat.lt_of_lt_of_le hk hN)⟩)) (Nat.le_trans hN (next B2.out hb).size) hn hall)
  have HF := hide (fun w1 w2 a len cap => rf_fin (t := movE (pasR x y) t) (w1 := w1) (w2 := w2) (a := a) (len := len) (cap := cap) hN B2.out S2.out P1.out)
  clear ht hi hm hfit hall hn
  generalize movE (pasR x y) t = u at *
  go_enter Try.func20, Try.ntmps20
  go_wp2_with (first
    | (refine wpList_load_blk rfl 29 _ rfl _ rfl _ P0.out _ Try.underlying29 rfl (exC_info _ _) ?_)
    | (refine wpList_load_blk rfl 29 _ rfl _ rfl _ (by with_reducible exact Q0.out) _ Try.underlying29 rfl (exC_info _ _) ?_)
    | (refine wpList_store_row rfl 29 _ _ rfl _ (exC u.nd (.slice a len cap)) rfl rfl 29 _ F1.out (exC_info _ _) (by rfl) (exC_one _ _ _ _) ?_)
    | (go_at_call 35; refine HM.out.mono ?_; rintro e w1 ⟨rfl, hb⟩; have Q0 := hide (P0.out.keep hb); replace HA := hide (HA.out w1 hb); replace HF := hide (fun w2 a len cap => HF.out w1 w2 a len cap hb); clear hb)
    | (go_at_call 36; refine HA.out.mono ?_; rintro e w2 ⟨a, len, cap, rfl, hI, hb⟩; obtain ⟨F1, F2, F3⟩ := HF.out w2 a len cap hI hb; replace F1 := hide F1; replace F2 := hide F2; replace F3 := hide F3; clear hI hb HF))
  have hrl := run_blk (F1.out.setRow (cs := exC u.nd (.slice a len cap))) rfl
  refine bodyPost_ret (v := .tuple #[exV u.nd (.slice a len cap), .int .i64 0]) (by simp [results, Try.results20, asAddr, hrl]; try rfl) rfl ?_
  exact .inr ⟨rfl, _, _, _, rfl, F2.out, F3.out⟩
set_option maxHeartbeats 2000000 in
set_option maxRecDepth 100000 in
theorem rrows_any (t : Ex) (v : Value) (x y : Int) (N : Nat) (w : World) (hN : N ≤ w.heap.size) (hi : In (· < N) w v t) : Calls Try.prog 21 #[v, .int .i64 x, .int .i64 y] w fun e w' => RfP N w (spotR t x 0) (movE (rowR x y) t) e w' := by
  have ht : Tree w v t := hi.move (fun k hk => ⟨Nat.lt_of_lt_of_le hk hN, rfl⟩)
  obtain ⟨a0, l0, c0, rfl, -, -, -, -⟩ := ht.open
  replace hi := hide hi
  have B2 := hide (step (step (Below.refl w.heap.size w) (exO t.nd (.slice a0 l0 c0))) (exO nd0 (.slice none 0 0)))
  have S2 : Hid (((w.alloc (exO t.nd (.slice a0 l0 c0))).alloc (exO nd0 (.slice none 0 0))).heap.size = w.heap.size + 2) := hide (by simp)
  have P0 := hide ((Blk.new w (exC t.nd (.slice a0 l0 c0)) 29).alloc (exO nd0 (.slice none 0 0)))
  have P1 := hide (Blk.new1 w (exO t.nd (.slice a0 l0 c0)) (exC nd0 (.slice none 0 0)) 29)
  have HM := hide (rmay_any t _ _ (ht.step B2.out))
  by_cases hm : ¬ mayR t = 0
  · skip
    have her : spotR t x 0 = mayR t := by unfold spotR; rw [if_neg hm]
    rw [her]
    clear her
    have hne : (mayR t != 0) = true := by simp [hm]
    have hne' : (mayR t == 0) = false := by simp [hm]
    have hm' := hide hm
    clear hm ht
    generalize mayR t = m at *
    go_enter Try.func21, Try.ntmps21
    go_wp2_with (first
      | (refine wpList_load_blk rfl 29 _ rfl _ rfl _ P0.out _ Try.underlying29 rfl (exC_info _ _) ?_)
      | (go_at_call 35; refine HM.out.mono ?_; rintro e w1 ⟨rfl, hb⟩; have N1 := hide (P1.out.keep hb); have b1 := hide (next B2.out hb); clear hb)
      | (have hn1 := N1.out; refine wpList_store_row rfl 29 _ _ rfl _ (exC nd0 (.slice none 0 0)) rfl rfl 29 _ hn1 (exC_info nd0 (.slice none 0 0)) (by rfl) (exC_one nd0 none 0 0) ?_))
    have hrl := run_blk (N1.out.setRow (cs := exC nd0 (.slice none 0 0))) rfl
    refine bodyPost_ret (v := .tuple #[exV nd0 (.slice none 0 0), .int .i64 m]) (by simp [results, Try.results21, asAddr, hrl]; try rfl) rfl ?_
    exact .inl ⟨hm'.out, rfl, below_setRow b1.out (by omega) _⟩
  replace hm := Classical.byContradiction hm
  rw [hm] at HM
  by_cases hx : ¬ (0 ≤ x ∧ x < 65536)
  · have her : spotR t x 0 = 1 := by unfold spotR; rw [if_pos hm]; cases q : mayB x 0; rfl; (have := mayB_iff.1 q; omega)
    rw [her]
    clear her ht
    by_cases c0 : x < 0
    · clear hx
      go_enter Try.func21, Try.ntmps21
      go_wp2_with (first
        | (refine wpList_load_blk rfl 29 _ rfl _ rfl _ P0.out _ Try.underlying29 rfl (exC_info _ _) ?_)
        | (go_at_call 35; refine HM.out.mono ?_; rintro e w1 ⟨rfl, hb⟩; have N1 := hide (P1.out.keep hb); have b1 := hide (next B2.out hb); clear hb)
        | (have hn1 := N1.out; refine wpList_store_row rfl 29 _ _ rfl _ (exC nd0 (.slice none 0 0)) rfl rfl 29 _ hn1 (exC_info nd0 (.slice none 0 0)) (by rfl) (exC_one nd0 none 0 0) ?_))
      have hrl := run_blk (N1.out.setRow (cs := exC nd0 (.slice none 0 0))) rfl
      refine bodyPost_ret (v := .tuple #[exV nd0 (.slice none 0 0), .int .i64 1]) (by simp [results, Try.results21, asAddr, hrl]; try rfl) rfl ?_
      exact .inl ⟨by decide, rfl, below_setRow b1.out (by omega) _⟩
    · have c1 : 65536 ≤ x := by omega
      clear hx
      go_enter Try.func21, Try.ntmps21
      go_wp2_with (first
        | (refine wpList_load_blk rfl 29 _ rfl _ rfl _ P0.out _ Try.underlying29 rfl (exC_info _ _) ?_)
        | (go_at_call 35; refine HM.out.mono ?_; rintro e w1 ⟨rfl, hb⟩; have N1 := hide (P1.out.keep hb); have b1 := hide (next B2.out hb); clear hb)
        | (have hn1 := N1.out; refine wpList_store_row rfl 29 _ _ rfl _ (exC nd0 (.slice none 0 0)) rfl rfl 29 _ hn1 (exC_info nd0 (.slice none 0 0)) (by rfl) (exC_one nd0 none 0 0) ?_))
      have hrl := run_blk (N1.out.setRow (cs := exC nd0 (.slice none 0 0))) rfl
      refine bodyPost_ret (v := .tuple #[exV nd0 (.slice none 0 0), .int .i64 1]) (by simp [results, Try.results21, asAddr, hrl]; try rfl) rfl ?_
      exact .inl ⟨by decide, rfl, below_setRow b1.out (by omega) _⟩
  replace hx := Classical.byContradiction hx
  have her : spotR t x 0 = 0 := by unfold spotR; rw [if_pos hm, mayB_iff.2 ⟨hx.1, hx.2, by omega, by omega⟩]; rfl
  rw [her]
  clear her
  obtain ⟨hfit, hall⟩ := may_parts hm
  have hn : nodesE t ≤ 512 := (of_decide_eq_true hfit).1
  have HA : Hid (∀ w1, Below ((w.alloc (exO t.nd (.slice a0 l0 c0))).alloc (exO nd0 (.slice none 0 0))).heap.size ((w.alloc (exO t.nd (.slice a0 l0 c0))).alloc (exO nd0 (.slice none 0 0))) w1 → Calls Try.prog 36 #[mvV 2 0 0 x y, exV t.nd (.slice a0 l0 c0)] w1 fun e w' => AllP N w1 (movE (rowR x y) t) e w') := hide (fun w1 hb => all_any (.inr (.inl ⟨rfl, rfl, hx.1, hx.2⟩) : Mvd 2 0 0 x y (rowR x y)) t N _ w1 (hi.out.move (fun k hk => ⟨hk, (next B2.out hb).block k (Nat.lt_of_lt_of_le hk hN)⟩)) (Nat.le_trans hN (next B2.out hb).size) hn hall)
  have HF := hide (fun w1 w2 a len cap => rf_fin (t := movE (rowR x y) t) (w1 := w1) (w2 := w2) (a := a) (len := len) (cap := cap) hN B2.out S2.out P1.out)
  clear ht hi hm hfit hall hn
  generalize movE (rowR x y) t = u at *
  go_enter Try.func21, Try.ntmps21
  go_wp2_with (first
    | (refine wpList_load_blk rfl 29 _ rfl _ rfl _ P0.out _ Try.underlying29 rfl (exC_info _ _) ?_)
    | (refine wpList_load_blk rfl 29 _ rfl _ rfl _ (by with_reducible exact Q0.out) _ Try.underlying29 rfl (exC_info _ _) ?_)
    | (refine wpList_store_row rfl 29 _ _ rfl _ (exC u.nd (.slice a len cap)) rfl rfl 29 _ F1.out (exC_info _ _) (by rfl) (exC_one _ _ _ _) ?_)
    | (go_at_call 35; refine HM.out.mono ?_; rintro e w1 ⟨rfl, hb⟩; have Q0 := hide (P0.out.keep hb); replace HA := hide (HA.out w1 hb); replace HF := hide (fun w2 a len cap => HF.out w1 w2 a len cap hb); clear hb)
    | (go_at_call 36; refine HA.out.mono ?_; rintro e w2 ⟨a, len, cap, rfl, hI, hb⟩; obtain ⟨F1, F2, F3⟩ := HF.out w2 a len cap hI hb; replace F1 := hide F1; replace F2 := hide F2; replace F3 := hide F3; clear hI hb HF))
  have hrl := run_blk (F1.out.setRow (cs := exC u.nd (.slice a len cap))) rfl
  refine bodyPost_ret (v := .tuple #[exV u.nd (.slice a len cap), .int .i64 0]) (by simp [results, Try.results21, asAddr, hrl]; try rfl) rfl ?_
  exact .inr ⟨rfl, _, _, _, rfl, F2.out, F3.out⟩
set_option maxHeartbeats 2000000 in
set_option maxRecDepth 100000 in
theorem rcols_any (t : Ex) (v : Value) (x y : Int) (N : Nat) (w : World) (hN : N ≤ w.heap.size) (hi : In (· < N) w v t) : Calls Try.prog 22 #[v, .int .i64 x, .int .i64 y] w fun e w' => RfP N w (spotR t 0 x) (movE (colR x y) t) e w' := by
  have ht : Tree w v t := hi.move (fun k hk => ⟨Nat.lt_of_lt_of_le hk hN, rfl⟩)
  obtain ⟨a0, l0, c0, rfl, -, -, -, -⟩ := ht.open
  replace hi := hide hi
  have B2 := hide (step (step (Below.refl w.heap.size w) (exO t.nd (.slice a0 l0 c0))) (exO nd0 (.slice none 0 0)))
  have S2 : Hid (((w.alloc (exO t.nd (.slice a0 l0 c0))).alloc (exO nd0 (.slice none 0 0))).heap.size = w.heap.size + 2) := hide (by simp)
  have P0 := hide ((Blk.new w (exC t.nd (.slice a0 l0 c0)) 29).alloc (exO nd0 (.slice none 0 0)))
  have P1 := hide (Blk.new1 w (exO t.nd (.slice a0 l0 c0)) (exC nd0 (.slice none 0 0)) 29)
  have HM := hide (rmay_any t _ _ (ht.step B2.out))
  by_cases hm : ¬ mayR t = 0
  · skip
    have her : spotR t 0 x = mayR t := by unfold spotR; rw [if_neg hm]
    rw [her]
    clear her
    have hne : (mayR t != 0) = true := by simp [hm]
    have hne' : (mayR t == 0) = false := by simp [hm]
    have hm' := hide hm
    clear hm ht
    generalize mayR t = m at *
    go_enter Try.func22, Try.ntmps22
    go_wp2_with (first
      | (refine wpList_load_blk rfl 29 _ rfl _ rfl _ P0.out _ Try.underlying29 rfl (exC_info _ _) ?_)
      | (go_at_call 35; refine HM.out.mono ?_; rintro e w1 ⟨rfl, hb⟩; have N1 := hide (P1.out.keep hb); have b1 := hide (next B2.out hb); clear hb)
      | (have hn1 := N1.out; refine wpList_store_row rfl 29 _ _ rfl _ (exC nd0 (.slice none 0 0)) rfl rfl 29 _ hn1 (exC_info nd0 (.slice none 0 0)) (by rfl) (exC_one nd0 none 0 0) ?_))
    have hrl := run_blk (N1.out.setRow (cs := exC nd0 (.slice none 0 0))) rfl
    refine bodyPost_ret (v := .tuple #[exV nd0 (.slice none 0 0), .int .i64 m]) (by simp [results, Try.results22, asAddr, hrl]; try rfl) rfl ?_
    exact .inl ⟨hm'.out, rfl, below_setRow b1.out (by omega) _⟩
  replace hm := Classical.byContradiction hm
  rw [hm] at HM
  by_cases hx : ¬ (0 ≤ x ∧ x < 702)
  · have her : spotR t 0 x = 1 := by unfold spotR; rw [if_pos hm]; cases q : mayB 0 x; rfl; (have := mayB_iff.1 q; omega)
    rw [her]
    clear her ht
    by_cases c0 : x < 0
    · clear hx
      go_enter Try.func22, Try.ntmps22
      go_wp2_with (first
        | (refine wpList_load_blk rfl 29 _ rfl _ rfl _ P0.out _ Try.underlying29 rfl (exC_info _ _) ?_)
        | (go_at_call 35; refine HM.out.mono ?_; rintro e w1 ⟨rfl, hb⟩; have N1 := hide (P1.out.keep hb); have b1 := hide (next B2.out hb); clear hb)
        | (have hn1 := N1.out; refine wpList_store_row rfl 29 _ _ rfl _ (exC nd0 (.slice none 0 0)) rfl rfl 29 _ hn1 (exC_info nd0 (.slice none 0 0)) (by rfl) (exC_one nd0 none 0 0) ?_))
      have hrl := run_blk (N1.out.setRow (cs := exC nd0 (.slice none 0 0))) rfl
      refine bodyPost_ret (v := .tuple #[exV nd0 (.slice none 0 0), .int .i64 1]) (by simp [results, Try.results22, asAddr, hrl]; try rfl) rfl ?_
      exact .inl ⟨by decide, rfl, below_setRow b1.out (by omega) _⟩
    · have c1 : 702 ≤ x := by omega
      clear hx
      go_enter Try.func22, Try.ntmps22
      go_wp2_with (first
        | (refine wpList_load_blk rfl 29 _ rfl _ rfl _ P0.out _ Try.underlying29 rfl (exC_info _ _) ?_)
        | (go_at_call 35; refine HM.out.mono ?_; rintro e w1 ⟨rfl, hb⟩; have N1 := hide (P1.out.keep hb); have b1 := hide (next B2.out hb); clear hb)
        | (have hn1 := N1.out; refine wpList_store_row rfl 29 _ _ rfl _ (exC nd0 (.slice none 0 0)) rfl rfl 29 _ hn1 (exC_info nd0 (.slice none 0 0)) (by rfl) (exC_one nd0 none 0 0) ?_))
      have hrl := run_blk (N1.out.setRow (cs := exC nd0 (.slice none 0 0))) rfl
      refine bodyPost_ret (v := .tuple #[exV nd0 (.slice none 0 0), .int .i64 1]) (by simp [results, Try.results22, asAddr, hrl]; try rfl) rfl ?_
      exact .inl ⟨by decide, rfl, below_setRow b1.out (by omega) _⟩
  replace hx := Classical.byContradiction hx
  have her : spotR t 0 x = 0 := by unfold spotR; rw [if_pos hm, mayB_iff.2 ⟨by omega, by omega, hx.1, hx.2⟩]; rfl
  rw [her]
  clear her
  obtain ⟨hfit, hall⟩ := may_parts hm
  have hn : nodesE t ≤ 512 := (of_decide_eq_true hfit).1
  have HA : Hid (∀ w1, Below ((w.alloc (exO t.nd (.slice a0 l0 c0))).alloc (exO nd0 (.slice none 0 0))).heap.size ((w.alloc (exO t.nd (.slice a0 l0 c0))).alloc (exO nd0 (.slice none 0 0))) w1 → Calls Try.prog 36 #[mvV 3 0 0 x y, exV t.nd (.slice a0 l0 c0)] w1 fun e w' => AllP N w1 (movE (colR x y) t) e w') := hide (fun w1 hb => all_any (.inr (.inr ⟨rfl, rfl, hx.1, hx.2⟩) : Mvd 3 0 0 x y (colR x y)) t N _ w1 (hi.out.move (fun k hk => ⟨hk, (next B2.out hb).block k (Nat.lt_of_lt_of_le hk hN)⟩)) (Nat.le_trans hN (next B2.out hb).size) hn hall)
  have HF := hide (fun w1 w2 a len cap => rf_fin (t := movE (colR x y) t) (w1 := w1) (w2 := w2) (a := a) (len := len) (cap := cap) hN B2.out S2.out P1.out)
  clear ht hi hm hfit hall hn
  generalize movE (colR x y) t = u at *
  go_enter Try.func22, Try.ntmps22
  go_wp2_with (first
    | (refine wpList_load_blk rfl 29 _ rfl _ rfl _ P0.out _ Try.underlying29 rfl (exC_info _ _) ?_)
    | (refine wpList_load_blk rfl 29 _ rfl _ rfl _ (by with_reducible exact Q0.out) _ Try.underlying29 rfl (exC_info _ _) ?_)
    | (refine wpList_store_row rfl 29 _ _ rfl _ (exC u.nd (.slice a len cap)) rfl rfl 29 _ F1.out (exC_info _ _) (by rfl) (exC_one _ _ _ _) ?_)
    | (go_at_call 35; refine HM.out.mono ?_; rintro e w1 ⟨rfl, hb⟩; have Q0 := hide (P0.out.keep hb); replace HA := hide (HA.out w1 hb); replace HF := hide (fun w2 a len cap => HF.out w1 w2 a len cap hb); clear hb)
    | (go_at_call 36; refine HA.out.mono ?_; rintro e w2 ⟨a, len, cap, rfl, hI, hb⟩; obtain ⟨F1, F2, F3⟩ := HF.out w2 a len cap hI hb; replace F1 := hide F1; replace F2 := hide F2; replace F3 := hide F3; clear hI hb HF))
  have hrl := run_blk (F1.out.setRow (cs := exC u.nd (.slice a len cap))) rfl
  refine bodyPost_ret (v := .tuple #[exV u.nd (.slice a len cap), .int .i64 0]) (by simp [results, Try.results22, asAddr, hrl]; try rfl) rfl ?_
  exact .inr ⟨rfl, _, _, _, rfl, F2.out, F3.out⟩
end Go.Proofs.Ytnikmbkkhfmbeaa
