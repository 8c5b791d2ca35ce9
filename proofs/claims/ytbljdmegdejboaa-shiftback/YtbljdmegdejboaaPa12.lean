/- shift.moved, Paste, Rows, Cols: what they answer of every tree. -/
import Derived.Test.YtbljdmegdejboaaWk12
namespace Go.Proofs.Ytbljdmegdejboaa
open Go.RowKit Go.Sort
set_option linter.unusedVariables false

/-- A tree of one's own is answered. -/
def NewP (w : World) (t : Ex) (e : Ending) (w' : World) : Prop := ∃ a len cap bs, e = .returned (exV t.nd (.slice a len cap)) ∧ New w w' (exV t.nd (.slice a len cap)) t bs ∧ Below w.heap.size w w'
set_option maxHeartbeats 2000000 in
set_option maxRecDepth 100000 in
theorem moved_any {f : Mv} {F : Nat} {caps : Array Value} (t : Ex) (v : Value) (w : World) (hmv : MvIs w f F caps) (ht : Tree w v t) (hm : mayR t = 0) : Calls Try.prog 38 #[v, .func (.func F) #[] caps] w fun e w' => NewP w (movE f t) e w' := by
  obtain ⟨hf, hall⟩ := may_parts hm
  have hn : nodesE t ≤ 512 := (of_decide_eq_true hf).1
  obtain ⟨a0, len0, cap0, rfl, -, -, -, -⟩ := ht.open
  have P1 := hide (Blk.new1 w (exO t.nd (.slice a0 len0 cap0)) (exC nd0 (.slice none 0 0)) 29)
  have P0 := hide ((Blk.new w (exC t.nd (.slice a0 len0 cap0)) 29).alloc (exO nd0 (.slice none 0 0)))
  have B2 := hide (step (step (Below.refl w.heap.size w) (exO t.nd (.slice a0 len0 cap0))) (exO nd0 (.slice none 0 0)))
  have S2 : Hid (((w.alloc (exO t.nd (.slice a0 len0 cap0))).alloc (exO nd0 (.slice none 0 0))).heap.size = w.heap.size + 1 + 1) := hide (by simp)
  have HC : Hid (Calls Try.prog 53 #[exV t.nd (.slice a0 len0 cap0)] ((w.alloc (exO t.nd (.slice a0 len0 cap0))).alloc (exO nd0 (.slice none 0 0))) fun e w' => ∃ a len cap bs, e = .returned (.tuple #[exV t.nd (.slice a len cap), .int .i64 0]) ∧ New ((w.alloc (exO t.nd (.slice a0 len0 cap0))).alloc (exO nd0 (.slice none 0 0))) w' (exV t.nd (.slice a len cap)) t bs ∧ Below ((w.alloc (exO t.nd (.slice a0 len0 cap0))).alloc (exO nd0 (.slice none 0 0))).heap.size ((w.alloc (exO t.nd (.slice a0 len0 cap0))).alloc (exO nd0 (.slice none 0 0))) w') :=
    hide ((copy_any t _ _ (ht.step B2.out)).mono (by
      intro e w' h
      rcases h with ⟨h, _⟩ | ⟨_, h⟩
      · rw [hf] at h; cases h
      · exact h))
  have HW : Hid (∀ w1 a len cap bs, New ((w.alloc (exO t.nd (.slice a0 len0 cap0))).alloc (exO nd0 (.slice none 0 0))) w1 (exV t.nd (.slice a len cap)) t bs → Below ((w.alloc (exO t.nd (.slice a0 len0 cap0))).alloc (exO nd0 (.slice none 0 0))).heap.size ((w.alloc (exO t.nd (.slice a0 len0 cap0))).alloc (exO nd0 (.slice none 0 0))) w1 →
      Calls Try.prog 54 #[.pointer (some ⟨w1.heap.size, 0, none⟩), .func (.func F) #[] caps] (w1.alloc (exO t.nd (.slice a len cap))) fun e w' => e = .returned (.tuple #[]) ∧ WkQ f w1.heap.size 0 t bs (w1.alloc (exO t.nd (.slice a len cap))) w') := hide (fun w1 a len cap bs hN hb => by
    have hs := hb.size
    rw [S2.out] at hs
    refine walk_any f t w F caps hmv w1.heap.size 0 _ bs (exC t.nd (.slice a len cap)) (exC t.nd (.slice a len cap)) 29 (step (next B2.out hb) _) (by omega) (fun x hx => ?_) (hN.ow.move _ (fun x hx => Below.heap_alloc w1 _ x (hN.at' x hx).2)) hN.nd (fun hx => Nat.lt_irrefl _ (hN.at' _ hx).2) (range_ex w1 t.nd _) (Blk.new w1 _ _) (by rw [exC_size]; exact Nat.le_refl _) hall hn
    have := (hN.at' x hx).1
    rw [S2.out] at this
    omega)
  have HF : Hid (∀ w1 a len cap bs w3, New ((w.alloc (exO t.nd (.slice a0 len0 cap0))).alloc (exO nd0 (.slice none 0 0))) w1 (exV t.nd (.slice a len cap)) t bs → Below ((w.alloc (exO t.nd (.slice a0 len0 cap0))).alloc (exO nd0 (.slice none 0 0))).heap.size ((w.alloc (exO t.nd (.slice a0 len0 cap0))).alloc (exO nd0 (.slice none 0 0))) w1 → WkQ f w1.heap.size 0 t bs (w1.alloc (exO t.nd (.slice a len cap))) w3 →
      ∃ a' len' cap' bs', w3.rangeAt w1.heap.size 0 (exC (movE f t).nd (.slice a' len' cap')).toList ∧ Blk w3 (w.heap.size + 1) (exC nd0 (.slice none 0 0)) 29 ∧ New w (w3.setRow (w.heap.size + 1) (exC (movE f t).nd (.slice a' len' cap'))) (exV (movE f t).nd (.slice a' len' cap')) (movE f t) bs' ∧ Below w.heap.size w (w3.setRow (w.heap.size + 1) (exC (movE f t).nd (.slice a' len' cap')))) := hide (fun w1 a len cap bs w3 hN hb q => by
    obtain ⟨cs, bs', h1, h2, h3, h4⟩ := q.at'
    obtain ⟨a', len', cap', rfl⟩ := h1.cs
    have hs := hb.size
    rw [S2.out] at hs
    have hge : ∀ x ∈ bs, w.heap.size + 1 + 1 ≤ x ∧ x < w1.heap.size := fun x hx => by have := hN.at' x hx; rw [S2.out] at this; exact this
    have hal : (w1.alloc (exO t.nd (.slice a len cap))).heap.size = w1.heap.size + 1 := by simp
    have hq := q.chg.size
    have h5 : Blk w3 (w.heap.size + 1) (exC nd0 (.slice none 0 0)) 29 := q.chg.blk ((P1.out.keep hb).alloc _) (fun e => by
      rcases e with e | e
      · omega
      · have := (hge _ e).1; omega)
    have h6 : Below w.heap.size w w3 := (step (next B2.out hb) (exO t.nd (.slice a len cap))).trans (q.chg.below (by omega) (fun k e => by
      rcases e with e | e
      · omega
      · have := (hge _ e).1; omega))
    refine ⟨a', len', cap', bs', h2, h5, ⟨h1.move _ (fun x hx => setRow_other _ _ _ _ (by have := (hge x (h4 x hx)).1; omega)), h3, fun x hx => ?_⟩, below_setRow h6 (by omega) _⟩
    rw [size_setRow]
    have := hge x (h4 x hx)
    omega)
  clear ht hm hf hall hn hmv
  go_enter Try.func38, Try.ntmps38
  go_wp2_with (first
    | (refine wpList_load_blk rfl 29 _ rfl _ rfl _ P0.out _ Try.underlying29 rfl (exC_info _ _) ?_)
    | (refine wpList_load_at rfl 29 _ rfl _ _ rfl _ _ (by with_reducible exact R3.out) Try.underlying29 rfl (exC_info _ _) ?_)
    | (refine wpList_store_row rfl 29 _ _ rfl _ (exC (movE f t).nd (.slice a' len' cap')) rfl rfl 29 _ F1.out (exC_info _ _) (by rfl) (exC_one _ _ _ _) ?_)
    | (go_at_call 53; refine HC.out.mono ?_; rintro e w1 ⟨a, len, cap, bs, rfl, hN, hb⟩; replace HW := hide (HW.out w1 a len cap bs hN hb); replace HF := hide (fun w3 => HF.out w1 a len cap bs w3 hN hb); have hsn := run_putnew w1 t.nd a len cap; clear hN hb)
    | (go_at_call 54; refine HW.out.mono ?_; rintro e w3 ⟨rfl, hq⟩; obtain ⟨a', len', cap', bs', R3, F1, F2, F3⟩ := HF.out w3 hq; replace R3 := hide R3; replace F1 := hide F1; replace F2 := hide F2; replace F3 := hide F3; clear hq HF))
  refine bodyPost_ret (v := exV (movE f t).nd (.slice a' len' cap')) (results_cell_row Try.results38 _ _ (w.heap.size + 1) 29 (exC (movE f t).nd (.slice a' len' cap')) (0, 0) _ rfl (F1.out.setRow) Try.underlying29 rfl (exC_info _ _)) rfl ?_
  exact ⟨_, _, _, _, rfl, F2.out, F3.out⟩
/-- What Paste, Rows and Cols answer: an error, or a tree of one's own. -/
def ShP (w : World) (er : Int) (t : Ex) (e : Ending) (w' : World) : Prop :=
  (er ≠ 0 ∧ e = .returned (.tuple #[exV nd0 (.slice none 0 0), .int .i64 er]) ∧ Below w.heap.size w w') ∨
  (er = 0 ∧ ∃ a len cap bs, e = .returned (.tuple #[exV t.nd (.slice a len cap), .int .i64 0]) ∧ New w w' (exV t.nd (.slice a len cap)) t bs ∧ Below w.heap.size w w')
def spotR (t : Ex) (r c : Int) : Int := if mayR t = 0 then (if mayB r c then 0 else 1) else mayR t
theorem iC (d : Int) : Array.size #[Value.int .i64 d] = 1 := rfl
/-- How the answer is put together. -/
theorem sh_fin {w wA w1 w2 : World} {er : Int} {t : Ex} {nd : Nd} {s : Value} (hA : Below w.heap.size w wA) (hAs : wA.heap.size = w.heap.size + 4) (P : Blk wA (w.heap.size + 1 + 1 + 1) (exC nd0 (.slice none 0 0)) 29) (h1 : Below wA.heap.size wA w1) {a : Option Addr} {len cap : Nat} {bs : List Nat} (hN : New w1 w2 (exV t.nd (.slice a len cap)) t bs) (h2 : Below w1.heap.size w1 w2) :
    Blk w2 (w.heap.size + 1 + 1 + 1) (exC nd0 (.slice none 0 0)) 29 ∧ New w (w2.setRow (w.heap.size + 1 + 1 + 1) (exC t.nd (.slice a len cap))) (exV t.nd (.slice a len cap)) t bs ∧ Below w.heap.size w (w2.setRow (w.heap.size + 1 + 1 + 1) (exC t.nd (.slice a len cap))) := by
  have hs1 := h1.size
  have hs2 := h2.size
  refine ⟨(P.keep h1).keep h2, ⟨hN.ow.move _ (fun x hx => setRow_other _ _ _ _ (by have := (hN.at' x hx).1; omega)), hN.nd, fun x hx => by rw [size_setRow]; have := hN.at' x hx; omega⟩, below_setRow (next (next hA h1) h2) (by omega) _⟩
set_option maxHeartbeats 2000000 in
set_option maxRecDepth 100000 in
theorem mayChange_any (t : Ex) (v : Value) (r c : Int) (w : World) (ht : Tree w v t) : Calls Try.prog 41 #[v, spotV r c] w fun e w' => e = .returned (.int .i64 (spotR t r c)) ∧ Below w.heap.size w w' := by
  obtain ⟨a, len, cap, rfl, -, -, -, -⟩ := ht.open
  have P0 := hide ((Blk.new w (exC t.nd (.slice a len cap)) 29).alloc (.cells #[.int .i64 r, .int .i64 c] 66))
  have P1 := hide (Blk.new1 w (exO t.nd (.slice a len cap)) #[.int .i64 r, .int .i64 c] 66)
  have B2 := hide (step (step (Below.refl w.heap.size w) (exO t.nd (.slice a len cap))) (.cells #[.int .i64 r, .int .i64 c] 66))
  have HM := hide (may_any t _ _ (ht.step B2.out))
  have HS := hide (spotMay_any r c)
  unfold spotR
  clear ht
  by_cases hm : mayR t = 0
  · rw [if_pos hm]
    rw [hm] at HM
    cases hq : mayB r c
    all_goals
      rw [hq] at HS
      go_enter Try.func41, Try.ntmps41
      go_wp2_with (first
        | (refine wpList_load_blk rfl 29 _ rfl _ rfl _ P0.out _ Try.underlying29 rfl (exC_info _ _) ?_)
        | (go_at_call 13; refine HM.out.mono ?_; rintro e w1 ⟨rfl, hb⟩; have b1 := hide (next B2.out hb); have q0 := (P1.out.keep hb).at' 0; have q1 := (P1.out.keep hb).at' 1; simp at q0 q1; clear hb)
        | (go_at_call 49; refine (HS.out _).mono ?_; rintro e w2 ⟨rfl, hb⟩; have b2 := hide (next b1.out hb); clear hb))
      go_ret
      exact ⟨rfl, b2.out⟩
  · rw [if_neg hm]
    have hne : (mayR t != 0) = true := by simp [hm]
    have hne' : (mayR t == 0) = false := by simp [hm]
    generalize mayR t = m at *
    go_enter Try.func41, Try.ntmps41
    go_wp2_with (first
      | (refine wpList_load_blk rfl 29 _ rfl _ rfl _ P0.out _ Try.underlying29 rfl (exC_info _ _) ?_)
      | (go_at_call 13; refine HM.out.mono ?_; rintro e w1 ⟨rfl, hb⟩; have b1 := hide (next B2.out hb); clear hb))
    go_ret
    exact ⟨rfl, b1.out⟩
set_option maxHeartbeats 2000000 in
set_option maxRecDepth 100000 in
theorem paste_any (t : Ex) (v : Value) (x y : Int) (w : World) (ht : Tree w v t) : Calls Try.prog 22 #[v, .int .i64 x, .int .i64 y] w fun e w' => ShP w (mayR t) (movE (pasR x y) t) e w' := by
  obtain ⟨a0, len0, cap0, rfl, -, -, -, -⟩ := ht.open
  have B4 := hide (step (step (step (step (Below.refl w.heap.size w) (exO t.nd (.slice a0 len0 cap0))) (.cells #[.int .i64 x] 2)) (.cells #[.int .i64 y] 2)) (exO nd0 (.slice none 0 0)))
  have S4 : Hid (((((w.alloc (exO t.nd (.slice a0 len0 cap0))).alloc (.cells #[.int .i64 x] 2)).alloc (.cells #[.int .i64 y] 2)).alloc (exO nd0 (.slice none 0 0))).heap.size = w.heap.size + 4) := hide (by simp)
  have P0 := hide ((((Blk.new w (exC t.nd (.slice a0 len0 cap0)) 29).alloc (.cells #[.int .i64 x] 2)).alloc (.cells #[.int .i64 y] 2)).alloc (exO nd0 (.slice none 0 0)))
  have P1 : Hid (Blk ((((w.alloc (exO t.nd (.slice a0 len0 cap0))).alloc (.cells #[.int .i64 x] 2)).alloc (.cells #[.int .i64 y] 2)).alloc (exO nd0 (.slice none 0 0))) (w.heap.size + 1) #[.int .i64 x] 2) := hide (((Blk.new1 w (exO t.nd (.slice a0 len0 cap0)) #[.int .i64 x] 2).alloc (.cells #[.int .i64 y] 2)).alloc (exO nd0 (.slice none 0 0)))
  have P2 : Hid (Blk ((((w.alloc (exO t.nd (.slice a0 len0 cap0))).alloc (.cells #[.int .i64 x] 2)).alloc (.cells #[.int .i64 y] 2)).alloc (exO nd0 (.slice none 0 0))) (w.heap.size + 1 + 1) #[.int .i64 y] 2) := hide ((Blk.new2 w (exO t.nd (.slice a0 len0 cap0)) (.cells #[.int .i64 x] 2) #[.int .i64 y] 2).alloc (exO nd0 (.slice none 0 0)))
  have P3 : Hid (Blk ((((w.alloc (exO t.nd (.slice a0 len0 cap0))).alloc (.cells #[.int .i64 x] 2)).alloc (.cells #[.int .i64 y] 2)).alloc (exO nd0 (.slice none 0 0))) (w.heap.size + 1 + 1 + 1) (exC nd0 (.slice none 0 0)) 29) := hide (Blk.new3 w (exO t.nd (.slice a0 len0 cap0)) (.cells #[.int .i64 x] 2) (.cells #[.int .i64 y] 2) (exC nd0 (.slice none 0 0)) 29)
  have HM := hide (may_any t _ _ (ht.step B4.out))
  have c1 := P1.out.one
  have c2 := P2.out.one
  by_cases hm : mayR t = 0
  · rw [hm] at HM ⊢
    have hm0 : mayR t = 0 := hm
    have HV : Hid (∀ w1, Below ((((w.alloc (exO t.nd (.slice a0 len0 cap0))).alloc (.cells #[.int .i64 x] 2)).alloc (.cells #[.int .i64 y] 2)).alloc (exO nd0 (.slice none 0 0))).heap.size ((((w.alloc (exO t.nd (.slice a0 len0 cap0))).alloc (.cells #[.int .i64 x] 2)).alloc (.cells #[.int .i64 y] 2)).alloc (exO nd0 (.slice none 0 0))) w1 → Calls Try.prog 38 #[exV t.nd (.slice a0 len0 cap0), .func (.func 39) #[] #[.pointer (some ⟨w.heap.size + 1, 0, none⟩), .pointer (some ⟨w.heap.size + 1 + 1, 0, none⟩)]] w1 fun e w' => NewP w1 (movE (pasR x y) t) e w') := hide (fun w1 hb => moved_any t _ w1 (paste_mv (w0 := w1) (B1 := w.heap.size + 1) (B2 := w.heap.size + 1 + 1) (P1.out.keep hb) (P2.out.keep hb)) (ht.step (next B4.out hb)) hm0)
    have HF := hide (fun w1 w2 a len cap bs => sh_fin (t := movE (pasR x y) t) (er := 0) (nd := nd0) (s := .slice none 0 0) (w1 := w1) (w2 := w2) (a := a) (len := len) (cap := cap) (bs := bs) B4.out S4.out P3.out)
    clear ht hm hm0
    generalize movE (pasR x y) t = u at *
    go_enter Try.func22, Try.ntmps22
    go_wp2_with (first
      | (refine wpList_load_blk rfl 29 _ rfl _ rfl _ P0.out _ Try.underlying29 rfl (exC_info _ _) ?_)
      | (refine wpList_load_blk rfl 29 _ rfl _ rfl _ (by with_reducible exact Q0.out) _ Try.underlying29 rfl (exC_info _ _) ?_)
      | (refine wpList_store_row rfl 29 _ _ rfl _ (exC u.nd (.slice a len cap)) rfl rfl 29 _ F1.out (exC_info _ _) (by rfl) (exC_one _ _ _ _) ?_)
      | (go_at_call 13; refine HM.out.mono ?_; rintro e w1 ⟨rfl, hb⟩; have Q0 := hide (P0.out.keep hb); replace HV := hide (HV.out w1 hb); replace HF := hide (fun w2 a len cap bs => HF.out w1 w2 a len cap bs hb); clear hb)
      | (go_at_call 38; refine HV.out.mono ?_; rintro e w2 ⟨a, len, cap, bs, rfl, hN, hb⟩; obtain ⟨F1, F2, F3⟩ := HF.out w2 a len cap bs hN hb; replace F1 := hide F1; replace F2 := hide F2; replace F3 := hide F3; clear hN hb HF))
    have hrl := run_blk (F1.out.setRow (cs := exC u.nd (.slice a len cap))) rfl
    refine bodyPost_ret (v := .tuple #[exV u.nd (.slice a len cap), .int .i64 0]) (by simp [results, Try.results22, asAddr, hrl]; try rfl) rfl ?_
    exact .inr ⟨rfl, _, _, _, _, rfl, F2.out, F3.out⟩
  · have hne : (mayR t != 0) = true := by simp [hm]
    have hne' : (mayR t == 0) = false := by simp [hm]
    have hm' := hide hm
    clear hm ht
    generalize mayR t = m at *
    go_enter Try.func22, Try.ntmps22
    go_wp2_with (first
      | (refine wpList_load_blk rfl 29 _ rfl _ rfl _ P0.out _ Try.underlying29 rfl (exC_info _ _) ?_)
      | (go_at_call 13; refine HM.out.mono ?_; rintro e w1 ⟨rfl, hb⟩; have N1 := hide (P3.out.keep hb); have b1 := hide (next B4.out hb); clear hb)
      | (have hn1 := N1.out; refine wpList_store_row rfl 29 _ _ rfl _ (exC nd0 (.slice none 0 0)) rfl rfl 29 _ hn1 (exC_info nd0 (.slice none 0 0)) (by rfl) (exC_one nd0 none 0 0) ?_))
    have hrl := run_blk (N1.out.setRow (cs := exC nd0 (.slice none 0 0))) rfl
    refine bodyPost_ret (v := .tuple #[exV nd0 (.slice none 0 0), .int .i64 m]) (by simp [results, Try.results22, asAddr, hrl]; try rfl) rfl ?_
    exact .inl ⟨hm'.out, rfl, below_setRow b1.out (by omega) _⟩
set_option maxHeartbeats 2000000 in
set_option maxRecDepth 100000 in
theorem rows_any (t : Ex) (v : Value) (x y : Int) (w : World) (ht : Tree w v t) : Calls Try.prog 24 #[v, .int .i64 x, .int .i64 y] w fun e w' => ShP w (spotR t x 0) (movE (rowR x y) t) e w' := by
  obtain ⟨a0, len0, cap0, rfl, -, -, -, -⟩ := ht.open
  have B4 := hide (step (step (step (step (Below.refl w.heap.size w) (exO t.nd (.slice a0 len0 cap0))) (.cells #[.int .i64 x] 2)) (.cells #[.int .i64 y] 2)) (exO nd0 (.slice none 0 0)))
  have S4 : Hid (((((w.alloc (exO t.nd (.slice a0 len0 cap0))).alloc (.cells #[.int .i64 x] 2)).alloc (.cells #[.int .i64 y] 2)).alloc (exO nd0 (.slice none 0 0))).heap.size = w.heap.size + 4) := hide (by simp)
  have P0 := hide ((((Blk.new w (exC t.nd (.slice a0 len0 cap0)) 29).alloc (.cells #[.int .i64 x] 2)).alloc (.cells #[.int .i64 y] 2)).alloc (exO nd0 (.slice none 0 0)))
  have P1 : Hid (Blk ((((w.alloc (exO t.nd (.slice a0 len0 cap0))).alloc (.cells #[.int .i64 x] 2)).alloc (.cells #[.int .i64 y] 2)).alloc (exO nd0 (.slice none 0 0))) (w.heap.size + 1) #[.int .i64 x] 2) := hide (((Blk.new1 w (exO t.nd (.slice a0 len0 cap0)) #[.int .i64 x] 2).alloc (.cells #[.int .i64 y] 2)).alloc (exO nd0 (.slice none 0 0)))
  have P2 : Hid (Blk ((((w.alloc (exO t.nd (.slice a0 len0 cap0))).alloc (.cells #[.int .i64 x] 2)).alloc (.cells #[.int .i64 y] 2)).alloc (exO nd0 (.slice none 0 0))) (w.heap.size + 1 + 1) #[.int .i64 y] 2) := hide ((Blk.new2 w (exO t.nd (.slice a0 len0 cap0)) (.cells #[.int .i64 x] 2) #[.int .i64 y] 2).alloc (exO nd0 (.slice none 0 0)))
  have P3 : Hid (Blk ((((w.alloc (exO t.nd (.slice a0 len0 cap0))).alloc (.cells #[.int .i64 x] 2)).alloc (.cells #[.int .i64 y] 2)).alloc (exO nd0 (.slice none 0 0))) (w.heap.size + 1 + 1 + 1) (exC nd0 (.slice none 0 0)) 29) := hide (Blk.new3 w (exO t.nd (.slice a0 len0 cap0)) (.cells #[.int .i64 x] 2) (.cells #[.int .i64 y] 2) (exC nd0 (.slice none 0 0)) 29)
  have HM := hide (mayChange_any t _ x 0 _ (ht.step B4.out))
  have c1 := P1.out.one
  have c2 := P2.out.one
  by_cases hm : spotR t x 0 = 0
  · rw [hm] at HM ⊢
    have hm0 : mayR t = 0 := by unfold spotR at hm; by_cases q : mayR t = 0; (exact q); (rw [if_neg q] at hm; exact absurd hm q)
    have hx : 0 ≤ x ∧ x < 65536 := by unfold spotR at hm; rw [if_pos hm0] at hm; cases q : mayB x 0; (rw [q] at hm; cases hm); (have := mayB_iff.1 q; omega)
    have HV : Hid (∀ w1, Below ((((w.alloc (exO t.nd (.slice a0 len0 cap0))).alloc (.cells #[.int .i64 x] 2)).alloc (.cells #[.int .i64 y] 2)).alloc (exO nd0 (.slice none 0 0))).heap.size ((((w.alloc (exO t.nd (.slice a0 len0 cap0))).alloc (.cells #[.int .i64 x] 2)).alloc (.cells #[.int .i64 y] 2)).alloc (exO nd0 (.slice none 0 0))) w1 → Calls Try.prog 38 #[exV t.nd (.slice a0 len0 cap0), .func (.func 42) #[] #[.pointer (some ⟨w.heap.size + 1, 0, none⟩), .pointer (some ⟨w.heap.size + 1 + 1, 0, none⟩)]] w1 fun e w' => NewP w1 (movE (rowR x y) t) e w') := hide (fun w1 hb => moved_any t _ w1 (rows_mv (w0 := w1) (B1 := w.heap.size + 1) (B2 := w.heap.size + 1 + 1) (P1.out.keep hb) (P2.out.keep hb) hx.1 hx.2) (ht.step (next B4.out hb)) hm0)
    have HF := hide (fun w1 w2 a len cap bs => sh_fin (t := movE (rowR x y) t) (er := 0) (nd := nd0) (s := .slice none 0 0) (w1 := w1) (w2 := w2) (a := a) (len := len) (cap := cap) (bs := bs) B4.out S4.out P3.out)
    clear ht hm hm0
    generalize movE (rowR x y) t = u at *
    go_enter Try.func24, Try.ntmps24
    go_wp2_with (first
      | (refine wpList_load_blk rfl 29 _ rfl _ rfl _ P0.out _ Try.underlying29 rfl (exC_info _ _) ?_)
      | (refine wpList_load_blk rfl 29 _ rfl _ rfl _ (by with_reducible exact Q0.out) _ Try.underlying29 rfl (exC_info _ _) ?_)
      | (refine wpList_store_row rfl 29 _ _ rfl _ (exC u.nd (.slice a len cap)) rfl rfl 29 _ F1.out (exC_info _ _) (by rfl) (exC_one _ _ _ _) ?_)
      | (go_at_call 41; refine HM.out.mono ?_; rintro e w1 ⟨rfl, hb⟩; have Q0 := hide (P0.out.keep hb); replace HV := hide (HV.out w1 hb); replace HF := hide (fun w2 a len cap bs => HF.out w1 w2 a len cap bs hb); clear hb)
      | (go_at_call 38; refine HV.out.mono ?_; rintro e w2 ⟨a, len, cap, bs, rfl, hN, hb⟩; obtain ⟨F1, F2, F3⟩ := HF.out w2 a len cap bs hN hb; replace F1 := hide F1; replace F2 := hide F2; replace F3 := hide F3; clear hN hb HF))
    have hrl := run_blk (F1.out.setRow (cs := exC u.nd (.slice a len cap))) rfl
    refine bodyPost_ret (v := .tuple #[exV u.nd (.slice a len cap), .int .i64 0]) (by simp [results, Try.results24, asAddr, hrl]; try rfl) rfl ?_
    exact .inr ⟨rfl, _, _, _, _, rfl, F2.out, F3.out⟩
  · have hne : (spotR t x 0 != 0) = true := by simp [hm]
    have hne' : (spotR t x 0 == 0) = false := by simp [hm]
    have hm' := hide hm
    clear hm ht
    generalize spotR t x 0 = m at *
    go_enter Try.func24, Try.ntmps24
    go_wp2_with (first
      | (refine wpList_load_blk rfl 29 _ rfl _ rfl _ P0.out _ Try.underlying29 rfl (exC_info _ _) ?_)
      | (go_at_call 41; refine HM.out.mono ?_; rintro e w1 ⟨rfl, hb⟩; have N1 := hide (P3.out.keep hb); have b1 := hide (next B4.out hb); clear hb)
      | (have hn1 := N1.out; refine wpList_store_row rfl 29 _ _ rfl _ (exC nd0 (.slice none 0 0)) rfl rfl 29 _ hn1 (exC_info nd0 (.slice none 0 0)) (by rfl) (exC_one nd0 none 0 0) ?_))
    have hrl := run_blk (N1.out.setRow (cs := exC nd0 (.slice none 0 0))) rfl
    refine bodyPost_ret (v := .tuple #[exV nd0 (.slice none 0 0), .int .i64 m]) (by simp [results, Try.results24, asAddr, hrl]; try rfl) rfl ?_
    exact .inl ⟨hm'.out, rfl, below_setRow b1.out (by omega) _⟩
set_option maxHeartbeats 2000000 in
set_option maxRecDepth 100000 in
theorem cols_any (t : Ex) (v : Value) (x y : Int) (w : World) (ht : Tree w v t) : Calls Try.prog 25 #[v, .int .i64 x, .int .i64 y] w fun e w' => ShP w (spotR t 0 x) (movE (colR x y) t) e w' := by
  obtain ⟨a0, len0, cap0, rfl, -, -, -, -⟩ := ht.open
  have B4 := hide (step (step (step (step (Below.refl w.heap.size w) (exO t.nd (.slice a0 len0 cap0))) (.cells #[.int .i64 x] 2)) (.cells #[.int .i64 y] 2)) (exO nd0 (.slice none 0 0)))
  have S4 : Hid (((((w.alloc (exO t.nd (.slice a0 len0 cap0))).alloc (.cells #[.int .i64 x] 2)).alloc (.cells #[.int .i64 y] 2)).alloc (exO nd0 (.slice none 0 0))).heap.size = w.heap.size + 4) := hide (by simp)
  have P0 := hide ((((Blk.new w (exC t.nd (.slice a0 len0 cap0)) 29).alloc (.cells #[.int .i64 x] 2)).alloc (.cells #[.int .i64 y] 2)).alloc (exO nd0 (.slice none 0 0)))
  have P1 : Hid (Blk ((((w.alloc (exO t.nd (.slice a0 len0 cap0))).alloc (.cells #[.int .i64 x] 2)).alloc (.cells #[.int .i64 y] 2)).alloc (exO nd0 (.slice none 0 0))) (w.heap.size + 1) #[.int .i64 x] 2) := hide (((Blk.new1 w (exO t.nd (.slice a0 len0 cap0)) #[.int .i64 x] 2).alloc (.cells #[.int .i64 y] 2)).alloc (exO nd0 (.slice none 0 0)))
  have P2 : Hid (Blk ((((w.alloc (exO t.nd (.slice a0 len0 cap0))).alloc (.cells #[.int .i64 x] 2)).alloc (.cells #[.int .i64 y] 2)).alloc (exO nd0 (.slice none 0 0))) (w.heap.size + 1 + 1) #[.int .i64 y] 2) := hide ((Blk.new2 w (exO t.nd (.slice a0 len0 cap0)) (.cells #[.int .i64 x] 2) #[.int .i64 y] 2).alloc (exO nd0 (.slice none 0 0)))
  have P3 : Hid (Blk ((((w.alloc (exO t.nd (.slice a0 len0 cap0))).alloc (.cells #[.int .i64 x] 2)).alloc (.cells #[.int .i64 y] 2)).alloc (exO nd0 (.slice none 0 0))) (w.heap.size + 1 + 1 + 1) (exC nd0 (.slice none 0 0)) 29) := hide (Blk.new3 w (exO t.nd (.slice a0 len0 cap0)) (.cells #[.int .i64 x] 2) (.cells #[.int .i64 y] 2) (exC nd0 (.slice none 0 0)) 29)
  have HM := hide (mayChange_any t _ 0 x _ (ht.step B4.out))
  have c1 := P1.out.one
  have c2 := P2.out.one
  by_cases hm : spotR t 0 x = 0
  · rw [hm] at HM ⊢
    have hm0 : mayR t = 0 := by unfold spotR at hm; by_cases q : mayR t = 0; (exact q); (rw [if_neg q] at hm; exact absurd hm q)
    have hx : 0 ≤ x ∧ x < 702 := by unfold spotR at hm; rw [if_pos hm0] at hm; cases q : mayB 0 x; (rw [q] at hm; cases hm); (have := mayB_iff.1 q; omega)
    have HV : Hid (∀ w1, Below ((((w.alloc (exO t.nd (.slice a0 len0 cap0))).alloc (.cells #[.int .i64 x] 2)).alloc (.cells #[.int .i64 y] 2)).alloc (exO nd0 (.slice none 0 0))).heap.size ((((w.alloc (exO t.nd (.slice a0 len0 cap0))).alloc (.cells #[.int .i64 x] 2)).alloc (.cells #[.int .i64 y] 2)).alloc (exO nd0 (.slice none 0 0))) w1 → Calls Try.prog 38 #[exV t.nd (.slice a0 len0 cap0), .func (.func 44) #[] #[.pointer (some ⟨w.heap.size + 1, 0, none⟩), .pointer (some ⟨w.heap.size + 1 + 1, 0, none⟩)]] w1 fun e w' => NewP w1 (movE (colR x y) t) e w') := hide (fun w1 hb => moved_any t _ w1 (cols_mv (w0 := w1) (B1 := w.heap.size + 1) (B2 := w.heap.size + 1 + 1) (P1.out.keep hb) (P2.out.keep hb) hx.1 hx.2) (ht.step (next B4.out hb)) hm0)
    have HF := hide (fun w1 w2 a len cap bs => sh_fin (t := movE (colR x y) t) (er := 0) (nd := nd0) (s := .slice none 0 0) (w1 := w1) (w2 := w2) (a := a) (len := len) (cap := cap) (bs := bs) B4.out S4.out P3.out)
    clear ht hm hm0
    generalize movE (colR x y) t = u at *
    go_enter Try.func25, Try.ntmps25
    go_wp2_with (first
      | (refine wpList_load_blk rfl 29 _ rfl _ rfl _ P0.out _ Try.underlying29 rfl (exC_info _ _) ?_)
      | (refine wpList_load_blk rfl 29 _ rfl _ rfl _ (by with_reducible exact Q0.out) _ Try.underlying29 rfl (exC_info _ _) ?_)
      | (refine wpList_store_row rfl 29 _ _ rfl _ (exC u.nd (.slice a len cap)) rfl rfl 29 _ F1.out (exC_info _ _) (by rfl) (exC_one _ _ _ _) ?_)
      | (go_at_call 41; refine HM.out.mono ?_; rintro e w1 ⟨rfl, hb⟩; have Q0 := hide (P0.out.keep hb); replace HV := hide (HV.out w1 hb); replace HF := hide (fun w2 a len cap bs => HF.out w1 w2 a len cap bs hb); clear hb)
      | (go_at_call 38; refine HV.out.mono ?_; rintro e w2 ⟨a, len, cap, bs, rfl, hN, hb⟩; obtain ⟨F1, F2, F3⟩ := HF.out w2 a len cap bs hN hb; replace F1 := hide F1; replace F2 := hide F2; replace F3 := hide F3; clear hN hb HF))
    have hrl := run_blk (F1.out.setRow (cs := exC u.nd (.slice a len cap))) rfl
    refine bodyPost_ret (v := .tuple #[exV u.nd (.slice a len cap), .int .i64 0]) (by simp [results, Try.results25, asAddr, hrl]; try rfl) rfl ?_
    exact .inr ⟨rfl, _, _, _, _, rfl, F2.out, F3.out⟩
  · have hne : (spotR t 0 x != 0) = true := by simp [hm]
    have hne' : (spotR t 0 x == 0) = false := by simp [hm]
    have hm' := hide hm
    clear hm ht
    generalize spotR t 0 x = m at *
    go_enter Try.func25, Try.ntmps25
    go_wp2_with (first
      | (refine wpList_load_blk rfl 29 _ rfl _ rfl _ P0.out _ Try.underlying29 rfl (exC_info _ _) ?_)
      | (go_at_call 41; refine HM.out.mono ?_; rintro e w1 ⟨rfl, hb⟩; have N1 := hide (P3.out.keep hb); have b1 := hide (next B4.out hb); clear hb)
      | (have hn1 := N1.out; refine wpList_store_row rfl 29 _ _ rfl _ (exC nd0 (.slice none 0 0)) rfl rfl 29 _ hn1 (exC_info nd0 (.slice none 0 0)) (by rfl) (exC_one nd0 none 0 0) ?_))
    have hrl := run_blk (N1.out.setRow (cs := exC nd0 (.slice none 0 0))) rfl
    refine bodyPost_ret (v := .tuple #[exV nd0 (.slice none 0 0), .int .i64 m]) (by simp [results, Try.results25, asAddr, hrl]; try rfl) rfl ?_
    exact .inl ⟨hm'.out, rfl, below_setRow b1.out (by omega) _⟩
end Go.Proofs.Ytbljdmegdejboaa
