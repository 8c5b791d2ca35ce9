/- PrintAll: the law's walk, for every list of trees: print.Formula answers what the reference answers, also of a laid tree, that is left as it was. -/
import Derived.Test.YtbpogngnhhkjbaaDoorRo11
import Derived.Test.YtbpogngnhhkjbaaDoorKpJ
import Derived.Test.YtbpogngnhhkjbaaDoorFoJ
import Derived.Test.YtbpogngnhhkjbaaDoorGnJ
import Derived.Test.YtbpogngnhhkjbaaDoorOpens11b
namespace Go.Proofs.YtbpogngnhhkjbaaDoor
open T9
open Go.RowKit Go.Sort
set_option linter.unusedVariables false

namespace T9
theorem forV_form (t : Ex) : ∃ (S : ByteArray) (E : Int), forV t = .tuple #[.string S, .int .i64 E] ∧ (mayR t = 2 → S = no ∧ E = 2) ∧ (¬ mayR t = 2 → (E == 2) = false) := by
  unfold forV
  by_cases h : mayR t = 0
  · rw [if_pos h]
    exact ⟨_, _, rfl, fun q => absurd (h.symm.trans q) (by decide), fun _ => rfl⟩
  · rw [if_neg h]
    refine ⟨_, _, rfl, fun q => ⟨rfl, by rw [q]⟩, fun q => ?_⟩
    rw [beq_eq_false_iff_ne]
    intro e
    exact q (by exact_mod_cast e)
theorem fit_of {t : Ex} (h : ¬ mayR t = 2) : nodesE t ≤ 512 := by
  cases hf : fitB t
  · exact absurd (mayR_no hf) h
  · exact (of_decide_eq_true hf).1
theorem blk14 {w : World} {X : Nat} {n : Nd} {s : Value} (h : Blk w X (exC n s) 30) :
    w.cell? ⟨X, 0, none⟩ = some (.int .i64 n.kind) ∧ w.cell? ⟨X, 1, none⟩ = some (.int .i64 n.op) ∧ w.cell? ⟨X, 2, none⟩ = some (.int .i64 n.num) ∧ w.cell? ⟨X, 3, none⟩ = some (.string n.text) ∧ w.cell? ⟨X, 4, none⟩ = some (.int .i64 n.ref.row) ∧ w.cell? ⟨X, 5, none⟩ = some (.int .i64 n.ref.col) ∧ w.cell? ⟨X, 6, none⟩ = some (.bool n.ref.pr) ∧ w.cell? ⟨X, 7, none⟩ = some (.bool n.ref.pc) ∧
    w.cell? ⟨X, 8, none⟩ = some (.int .i64 n.to.row) ∧ w.cell? ⟨X, 9, none⟩ = some (.int .i64 n.to.col) ∧ w.cell? ⟨X, 10, none⟩ = some (.bool n.to.pr) ∧ w.cell? ⟨X, 11, none⟩ = some (.bool n.to.pc) ∧ w.cell? ⟨X, 12, none⟩ = some (.int .i64 n.fn) ∧ w.cell? ⟨X, 13, none⟩ = some s :=
  ⟨h.at' 0, h.at' 1, h.at' 2, h.at' 3, h.at' 4, h.at' 5, h.at' 6, h.at' 7, h.at' 8, h.at' 9, h.at' 10, h.at' 11, h.at' 12, h.at' 13⟩
/-- What Lay left, put into a variable of the walk's. -/
theorem lay_got {w2 w3 : World} {n1 : Nd} {ks : List Ex} {e : Ending} (h : LayP w2 (.mk n1 ks) e w3) (hs : SmE (.mk n1 ks)) : ∃ (s : Value) (b : Nat) (bs : List Nat), s = .slice (some ⟨b, 0, none⟩) ks.length (ks.length + 1) ∧ e = .returned (exV n1 s) ∧ Below w2.heap.size w2 w3 ∧
    Ly (w3.alloc (exO n1 s)) (exV n1 s) (.mk n1 ks) bs ∧ bs.Nodup ∧ (∀ x ∈ bs, w2.heap.size ≤ x ∧ x < (w3.alloc (exO n1 s)).heap.size) ∧ Tree (w3.alloc (exO n1 s)) (exV n1 s) (.mk n1 ks) := by
  obtain ⟨b, bs, rfl, hLy, hnd, hbs, hb⟩ := h
  have hLy : Ly w3 (exV n1 (.slice (some ⟨b, 0, none⟩) ks.length (ks.length + 1))) (.mk n1 ks) bs := hLy
  have hY := hLy.move (w' := w3.alloc (exO n1 (.slice (some ⟨b, 0, none⟩) ks.length (ks.length + 1)))) _ (fun x hx => Below.heap_alloc _ _ x (hbs x hx).2)
  have hlt : ∀ x ∈ bs, x < (w3.alloc (exO n1 (.slice (some ⟨b, 0, none⟩) ks.length (ks.length + 1)))).heap.size := fun x hx => Nat.lt_of_lt_of_le (hbs x hx).2 (by simp)
  exact ⟨_, b, bs, rfl, rfl, hb, hY, hnd, fun x hx => ⟨(hbs x hx).1, hlt x hx⟩, (Ly.ow _ hY).in' _ hlt hs⟩
set_option maxHeartbeats 8000000 in
set_option maxRecDepth 100000 in
theorem printAll_walk (a : Option Addr) (len cap : Nat) (w : World) (hl : Lay11 w) (hX : ExsN w a len) : Calls Tryd.prog 3 #[.slice a len cap] w fun e w' => e = .returned (.bool true) ∧ Below w.heap.size w w' := by
  have HB := hide (begun11 w hl)
  have hsml := hide hX.1
  replace hX := hide hX
  replace hl := hide hl
  go_enter Tryd.func3, Tryd.ntmps3
  go_wp2_with (first
    | (go_at_call 4; refine HB.out.mono ?_; rintro e w1 ⟨rfl, hb⟩; have b1 := hide hb; clear hb))
  clear HB
  go_loopw [3] (fun i wr => ∃ (k : Nat), k ≤ len ∧ i = .int .i64 k ∧ Hid (Below w1.heap.size w1 wr)) (fun i _ => len - (intOf i).toNat)
  case atStart => exact ⟨0, Nat.zero_le _, rfl, Below.refl _ _⟩
  case round =>
    obtain ⟨k, hkl, rfl, HB⟩ := hrel
    by_cases hlt : k < len
    · have p0 : (k : Int) < (len : Int) := by omega
      obtain ⟨b0, o0, rfl, n1, ks, a1, l1, c1, rk, tk, nk, hb0⟩ := hX.out.get hlt
      have wk := IntWalk.wrap64_in ((k : Int) + 1) ⟨by omega, by have := hsml.out; omega⟩
      have bw := hide (next b1.out HB.out)
      have RK := hide (fun w' (h : Below w.heap.size w w') => range_of_block rk (h.block b0 hb0))
      have TK := hide (fun w' (h : Below w.heap.size w w') => tk.step h)
      have R1 := hide (RK.out _ bw.out)
      have HR := hide (rfo_any (.mk n1 ks) _ wr (TK.out _ bw.out) nk)
      have HF := hide (fun v w' (h : Below w.heap.size w w') (ht : Tree w' v (.mk n1 ks)) => formula_any (.mk n1 ks) v w' ht (hl.out.keep h) nk)
      have hsm := hide (tk.sm (.mk n1 ks))
      obtain ⟨S, E, hfv, h2, hn2⟩ := forV_form (.mk n1 ks)
      rw [hfv] at HR HF
      clear hfv
      by_cases hm : mayR (.mk n1 ks) = 2
      · obtain ⟨rfl, rfl⟩ := h2 hm
        clear hn2 h2 hm rk tk nk
        go_wp2_with (first
          | (refine wpList_load_at rfl 30 _ rfl _ _ rfl _ _ (by with_reducible exact R2.out) Tryd.underlying30 rfl (exC_info _ _) ?_)
          | (refine wpList_load_at rfl 30 _ rfl _ _ rfl _ _ (by with_reducible exact R1.out) Tryd.underlying30 rfl (exC_info _ _) ?_)
          | (go_at_call 6; refine (HF.out _ _ W2.out (TK.out _ W2.out)).mono ?_; rintro e w3 ⟨rfl, hb⟩; have B3 := hide (next B2.out hb); clear hb)
          | (go_at_call 5; refine HR.out.mono ?_; rintro e w2 ⟨rfl, hb⟩; have B2 := hide (next HB.out hb); have W2 := hide (next bw.out hb); have R2 := hide (RK.out _ W2.out); clear hb))
        refine ⟨⟨k + 1, hlt, by rw [wk]; rfl, B3⟩, ?_⟩
        rw [wk]
        exact meas_lt hlt
      · have he := hn2 hm
        have HL := hide (fun w' (h : Below w.heap.size w w') => lay_any (.mk n1 ks) _ w' (TK.out _ h) (fit_of hm))
        have HK := hide (fun v1 w' bs (h : Below w.heap.size w w') (h1 : Ly w' v1 (.mk n1 ks) bs) (h2 : bs.Nodup) (h3 : ∀ x ∈ bs, x < w'.heap.size) => kept_any (.mk n1 ks) (.mk n1 ks) v1 _ w' bs h1 h2 h3 hsm.out (fit_of hm) (TK.out _ h) (same_self _))
        clear hn2 h2 hm rk tk nk
        go_upto_region 13 with (first
          | (refine wpList_load_at rfl 30 _ rfl _ _ rfl _ _ (by with_reducible exact R2.out) Tryd.underlying30 rfl (exC_info _ _) ?_)
          | (refine wpList_load_at rfl 30 _ rfl _ _ rfl _ _ (by with_reducible exact R1.out) Tryd.underlying30 rfl (exC_info _ _) ?_)
          | (refine wpList_load_blk rfl 30 _ rfl _ rfl _ (by with_reducible exact X4.out) _ Tryd.underlying30 rfl (exC_info _ _) ?_)
          | (go_at_call 6; (refine (HF.out _ _ W4.out T4.out).mono ?_; rintro e w5 ⟨rfl, hb⟩; have B5 := hide (next B4.out hb); have W5 := hide (next W4.out hb); have X5 := hide (X4.out.keep hb); have Y5 := hide (Y4.out.move _ (fun x hx => hb.block x (hbs.out x hx).2)); have hbs5 := hide (fun x hx => (⟨(hbs.out x hx).1, Nat.lt_of_lt_of_le (hbs.out x hx).2 hb.size⟩ : w2.heap.size ≤ x ∧ x < w5.heap.size)); have R5 := hide (RK.out _ W5.out); clear hb))
          | (go_at_call 7; (refine (HL.out _ W2.out).mono ?_; intro e w3 hq; obtain ⟨s, b, bs, hs, rfl, hb, hY, hnd, hbs, hT⟩ := lay_got hq hsm.out; have hsn := run_putnew w3 n1 (some ⟨b, 0, none⟩) ks.length (ks.length + 1); subst hs; clear hq; have B4 := hide (step (next B2.out hb) (exO n1 (.slice (some ⟨b, 0, none⟩) ks.length (ks.length + 1)))); have W4 := hide (step (next W2.out hb) (exO n1 (.slice (some ⟨b, 0, none⟩) ks.length (ks.length + 1)))); have X4 := hide (Blk.new w3 (exC n1 (.slice (some ⟨b, 0, none⟩) ks.length (ks.length + 1))) 30); have Y4 := hide hY; have T4 := hide hT; have b4 := hide hb; replace hbs := hide hbs; replace hnd := hide hnd; clear hb hY hT))
          | (go_at_call 5; refine HR.out.mono ?_; rintro e w2 ⟨rfl, hb⟩; have B2 := hide (next HB.out hb); have W2 := hide (next bw.out hb); have R2 := hide (RK.out _ W2.out); clear hb))
        obtain ⟨x0, x1, x2, x3, x4, x5, x6, x7, x8, x9, x10, x11, x12, x13⟩ := range14 R5.out
        obtain ⟨y0, y1, y2, y3, y4, y5, y6, y7, y8, y9, y10, y11, y12, y13⟩ := blk14 X5.out
        have xl := W5.out.size
        have yl := X5.out.lt
        have hb0' := hb0
        generalize w3.heap.size = X at *
        refine still_tail 5 (by kernel_rfl) (by kernel_rfl) ?_
        simp only [List.take_succ_cons, List.take_zero, List.drop_succ_cons, List.drop_zero]
        repeat still_step
        refine wpStill_nil ?_
        clear x0 x1 x2 x3 x4 x5 x6 x7 x8 x9 x10 x11 x12 x13 y0 y1 y2 y3 y4 y5 y6 y7 y8 y9 y10 y11 y12 y13
        have HK5 := hide (HK.out _ w5.drew bs W5.out.drew (Y5.out.move _ (fun x hx => rfl)) hnd.out (fun x hx => (hbs5.out x hx).2))
        go_wp2_with (first
          | (go_at_call 8; (refine HK5.out.mono ?_; rintro e w6 ⟨rfl, hc⟩; have B6 := hide (B5.out.drew.trans (hc.below (N := w1.heap.size) B5.out.size (fun x hx => Nat.le_trans B2.out.size (hbs5.out x hx).1))); clear hc)))
        refine ⟨⟨k + 1, hlt, by rw [wk]; rfl, B6⟩, ?_⟩
        rw [wk]
        exact meas_lt hlt
    · obtain rfl : k = len := by omega
      go_wp2_with fail
      go_ret
      exact ⟨rfl, next b1.out HB.out⟩
end T9
end Go.Proofs.YtbpogngnhhkjbaaDoor
