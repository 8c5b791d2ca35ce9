/- The fixed calls ahead of each law answer as the document fixes them, area.All's four places among them: proved of the Go text. -/
import Derived.Test.YtibogmlnbipbbaaRange3
import Derived.Test.YtibogmlnbipbbaaSize3
import Derived.Test.YtibogmlnbipbbaaMeet3
import Derived.Test.YtibogmlnbipbbaaMove3
namespace Go.Proofs.Ytibogmlnbipbbaa
open Go.RowKit Go.Shelf Go.Sort
set_option linter.unusedVariables false
attribute [local go_sem] Oper.semAt_some

theorem mayIs_ok {t l b r : Int} (h : 0 ≤ t ∧ t ≤ b ∧ b < 65536 ∧ 0 ≤ l ∧ l ≤ r ∧ r < 702) : MayIs t l b r 0 := by have := amay_any t l b r; rw [eA_ok h] at this; exact hide this
theorem mayIs_no {t l b r : Int} (h : ¬ (0 ≤ t ∧ t ≤ b ∧ b < 65536 ∧ 0 ≤ l ∧ l ≤ r ∧ r < 702)) : MayIs t l b r 11 := by have := amay_any t l b r; rw [eA_no h] at this; exact hide this
theorem mayRIs_ok {t l b r : Int} (h : 0 ≤ t ∧ t ≤ b ∧ b < 65536 ∧ 0 ≤ l ∧ l ≤ r ∧ r < 702) : MayRIs t l b r 0 := by have := rmay_any t l b r; rw [eA_ok h] at this; exact hide this
theorem mayRIs_no {t l b r : Int} (h : ¬ (0 ≤ t ∧ t ≤ b ∧ b < 65536 ∧ 0 ≤ l ∧ l ≤ r ∧ r < 702)) : MayRIs t l b r 11 := by have := rmay_any t l b r; rw [eA_no h] at this; exact hide this

theorem run_equalIn_func_nil (d : Nat) (f : Fn) (x y : Array Value) (w : World) : (Op.equalIn (d + 1) 33 (.func f x y) .nilFunc).run Try.prog w = .ok false w := by
  simp [Op.equalIn, run_underlying Try.underlying33]
/-- A function value that was made is not nil. -/
theorem func_nil (f : Fn) (x y : Array Value) (w : World) : (binOp .eql 33 (.func f x y) .nilFunc).run Try.prog w = .ok (.bool false) w := by
  have h : (Op.equal 33 (.func f x y) .nilFunc).run Try.prog w = .ok false w := run_equalIn_func_nil 9999 f x y w
  simp only [binOp]
  simp [h]
theorem plc_begun (m : Nat) : plc 0 0 2 m = ((m : Int) / 2, (m : Int) % 2) := by simp [plc]
theorem begun1 (w : World) : Calls Try.prog 19 #[areaV 0 0 1 1] w fun e w' => e = .returned (.tuple #[.int .i64 4, .int .i64 0]) ∧ Below w.heap.size w w' :=
  asize_yes 0 0 1 1 w (by decide) (by decide) (mayIs_ok (by decide))
theorem begun2 (w : World) : Calls Try.prog 13 #[areaV 0 0 1 1, areaV 1 1 5 9] w fun e w' => e = .returned (.tuple #[areaV 1 1 1 1, .bool true]) ∧ Below w.heap.size w w' :=
  ameet_4 0 0 1 1 1 1 5 9 w (mayIs_ok (by decide)) (mayIs_ok (by decide)) (mayIs_ok (by decide))
theorem begun3 (w : World) : Calls Try.prog 16 #[areaV 0 0 1 1, .int .i64 (-1), .int .i64 0] w fun e w' => e = .returned (.tuple #[areaV 0 0 0 0, .int .i64 10]) ∧ Below w.heap.size w w' :=
  amove_2 0 0 1 1 (-1) 0 w (mayIs_ok (by decide)) (hide fun w => stay_any 0 1 (-1) 65536 w (by decide) (by decide) (by decide) (by decide))

set_option maxHeartbeats 2000000 in
set_option maxRecDepth 100000 in
theorem begun_any (w : World) :
    Calls Try.prog 8 #[] w fun e w' => e = .returned (.bool true) ∧ Below w.heap.size w w' := by
  have H1 := hide begun1
  have H2 := hide begun2
  have H3 := hide begun3
  have H4 := hide (mayIs_no (t := 1) (l := 0) (b := 0) (r := 0) (by decide))
  have HA := hide (all_any 0 0 1 1)
  have hfn := func_nil
  refine (callsIn_wide (n := 12)).1 (callsIn_of_wp_marks Try.func8 rfl trivial (wpIn_wide.2 ?_) rfl)
  simp only [Try.ntmps8, List.size_toArray, List.length_nil, Nat.reduceSub, Array.replicate_succ, Array.replicate_zero, List.push_toArray, List.append_toArray, List.nil_append, List.cons_append]
  try simp only [List.append]
  go_wp2_with fail
  refine (H1.out _).mono ?_
  rintro e w1 ⟨rfl, hb1⟩
  have B1 := hide (next (step (step (Below.refl w.heap.size w) _) _) hb1)
  have rb := hide (((Blk.new w #[.bool false] 4).alloc (areaO 0 0 1 1)).keep hb1)
  have ca := hide ((Blk.new (w.alloc (.cells #[.bool false] 4)) #[.int .i64 0, .int .i64 0, .int .i64 1, .int .i64 1] 26).keep hb1)
  simp only [World.size_alloc] at ca
  obtain ⟨a0, a1, a2, a3⟩ := ca.out.c4
  go_wp2_with fail
  refine (H2.out _).mono ?_
  rintro e w2 ⟨rfl, hb2⟩
  clear a0 a1 a2 a3
  replace B1 := hide (next B1.out hb2)
  replace rb := hide (rb.out.keep hb2)
  replace ca := hide (ca.out.keep hb2)
  have a0 := fun o => (ca.out.alloc o).c4.1
  have a1 := fun o => (ca.out.alloc o).c4.2.1
  have a2 := fun o => (ca.out.alloc o).c4.2.2.1
  have a3 := fun o => (ca.out.alloc o).c4.2.2.2
  go_wp2_with fail
  refine (H3.out _).mono ?_
  rintro e w3 ⟨rfl, hb3⟩
  clear a0 a1 a2 a3
  replace B1 := hide (next (step B1.out _) hb3)
  replace rb := hide ((rb.out.alloc _).keep hb3)
  replace ca := hide ((ca.out.alloc _).keep hb3)
  have cb := hide ((Blk.new w2 #[.int .i64 1, .int .i64 1, .int .i64 1, .int .i64 1] 26).keep hb3)
  have a0 := fun o o' => ((ca.out.alloc o).alloc o').c4.1
  have a1 := fun o o' => ((ca.out.alloc o).alloc o').c4.2.1
  have a2 := fun o o' => ((ca.out.alloc o).alloc o').c4.2.2.1
  have a3 := fun o o' => ((ca.out.alloc o).alloc o').c4.2.2.2
  go_wp2_with (go_at_call 10; refine (HA.out _).mono ?_; rintro e w' ⟨rfl, rfl⟩)
  clear a0 a1 a2 a3
  have kb := hide ((Blk.new (w3.alloc (areaO 0 0 0 0)) #[.int .i64 0] 3).alloc (areaO 0 0 1 1))
  have na := hide (Blk.new ((w3.alloc (areaO 0 0 0 0)).alloc (.cells #[.int .i64 0] 3)) #[.int .i64 0, .int .i64 0, .int .i64 1, .int .i64 1] 26)
  simp only [World.size_alloc] at kb na
  replace rb := hide (((rb.out.alloc (areaO 0 0 0 0)).alloc (.cells #[.int .i64 0] 3)).alloc (areaO 0 0 1 1))
  replace cb := hide (((cb.out.alloc (areaO 0 0 0 0)).alloc (.cells #[.int .i64 0] 3)).alloc (areaO 0 0 1 1))
  have zw := B1.out.size
  have zc := hb3.size
  simp only [World.size_alloc] at zc
  replace B1 := hide (step (step (step B1.out (areaO 0 0 0 0)) (.cells #[.int .i64 0] 3)) (areaO 0 0 1 1))
  obtain ⟨W0, hW0⟩ : ∃ W0, ((w3.alloc (areaO 0 0 0 0)).alloc (.cells #[.int .i64 0] 3)).alloc (areaO 0 0 1 1) = W0 := ⟨_, rfl⟩
  have z0 : Hid (W0.heap.size = w3.heap.size + 3) := hide (by rw [← hW0]; simp)
  rw [hW0] at rb cb kb na B1 ⊢
  clear hW0 ca hb1 hb2 hb3
  refine range_out (n := 12) (by decide) 10 (gives 11 (w3.heap.size + 1 + 1) (by decide) 0 0 1 1 2 4 (.inl ⟨by decide, 2, by decide, by decide, by decide⟩) W0 na.out.c4) rfl na.out.lt
    (fun pre W => (W0.grownBy W (some (w3.heap.size + 1)) ∧ Blk W (w3.heap.size + 1) #[.int .i64 pre.length] 3) ∧ pre = upto 0 0 2 pre.length)
    (fun c pre W => NoFront 0 0 2 4 pre)
    (OwnFrom.and (OwnFrom.and (ownFrom_grown W0 _) (Own.from (Blk.own _ _ _) _)) (ownFrom_pure _ _))
    (fun c => ownFrom_pure _ _)
    ⟨⟨grown_refl _ _, kb.out⟩, rfl⟩ (fun pre W h => h.1.1.size) ?assign ?body ?done ?stop
  case assign =>
    intro lo x W K hK
    gi_wp2
    exact hK
  case body =>
    rintro lo pre ⟨x1, x2⟩ W Bx hlo hr ⟨⟨hg, bk⟩, hp⟩ hBx bX hlt
    have ck := bk.c1
    have fk := bk.fr 0
    obtain ⟨s0, s1⟩ := bX.c2
    have rB := rb.out.kept hg (by simp; omega)
    have fr := rB.fr 0
    have fc := rB.c1
    generalize hm : pre.length = m at *
    replace hp := hide hp
    simp only at s0 s1
    have hz := hg.size
    have zz := z0.out
    clear bX rB hr
    replace hm := hide hm
    replace hg := hide hg
    replace bk := hide bk
    gi_wp2
    · refine ⟨(KeepsOthers.setCell _ _ _).from _, KB_of_grown (grownBy_setCell' W _ _) (by omega) (by omega), ⟨grown_set hg.out _, ?_⟩, ?_⟩
      · rw [List.length_append, hm.out]; exact bk.out.set _
      · rw [List.length_append, hm.out]; simp only [List.length_singleton]; rw [upto_succ, plc_begun, ← hp.out, show x1 = (m : Int) / 2 by assumption, show x2 = (m : Int) % 2 by assumption]
    · refine ⟨(KeepsOthers.setCell _ _ _).from _, ?_⟩
      rw [hp.out]
      exact noFront_of (by rw [plc_begun]; simp; omega)
    · refine ⟨(KeepsOthers.setCell _ _ _).from _, ?_⟩
      rw [hp.out]
      exact noFront_of (by rw [plc_begun]; simp; omega)
  case done =>
    rintro D W hD ⟨⟨hg, bk⟩, _⟩ hK
    rw [upto_len] at bk
    have ck := bk.c1
    have rB := rb.out.kept hg (by simp; omega)
    have cB := cb.out.kept hg (by simp; omega)
    obtain ⟨b0, b1, b2, b3⟩ := cB.c4
    have BW := hide (grown_is_below B1.out hg (by omega))
    have hKD := hide hK
    clear hK hg bk
    go_wp2_with fail
    refine (H4.out _).mono ?_
    rintro e w4 ⟨rfl, hb4⟩
    have rD := rB.keep hb4
    have fr := rD.fr 0
    have fc := rD.c1
    have K4 := hide ((hb4.block D (Array.getElem?_eq_some_iff.1 hKD.out).1).trans hKD.out)
    have B4 := hide (next BW.out hb4)
    clear hb4
    go_wp2_with fail
    have hK' := (KeepsOthers.setCell w4 ⟨w.heap.size, 0, none⟩ (.bool true)).same D _ K4.out rfl
    refine ⟨by simp, .inl ⟨_, _, rfl, run_takeDeferred hK', ?_⟩⟩
    have hc5 := cell_kept (rD.set (.bool true)).c1 (grownBy_putObj' _ D (.deferred none)) (fun r e => by cases e; exact ⟨_, hK', rfl⟩)
    have zz := z0.out
    refine ⟨.bool true, ?_, rfl, (B4.out.setCell (p := ⟨w.heap.size, 0, none⟩) (Nat.le_refl _) _).trans (belowK_b (w := w) (Nat.le_refl _) _ D _ _ (by omega) hK' rfl rfl)⟩
    simp [results, Try.f8, go_sem, hc5]
  case stop =>
    rintro D c k W hD hk h hK
    exact (h ⟨k, hk, rfl⟩).elim
end Go.Proofs.Ytibogmlnbipbbaa
