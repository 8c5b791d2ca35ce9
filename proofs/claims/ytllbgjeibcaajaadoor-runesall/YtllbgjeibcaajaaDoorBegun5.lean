/- The fixed calls ahead of each law answer as the document fixes them, the two runes of runes.All among them: proved of the Go text. -/
import Derived.Test.YtllbgjeibcaajaaDoorBlk5
import Derived.Test.YtllbgjeibcaajaaDoorFind5
namespace Go.Proofs.YtllbgjeibcaajaaDoor
open Go.RowKit Go.Shelf Go.Sort
set_option linter.unusedVariables false
attribute [local go_sem] Oper.semAt_some

theorem run_equalIn_func_nil (d : Nat) (f : Fn) (x y : Array Value) (w : World) : (Op.equalIn (d + 1) 37 (.func f x y) .nilFunc).run Tryd.prog w = .ok false w := by
  simp [Op.equalIn, run_underlying Tryd.underlying37]
/-- A function value that was made is not nil. -/
theorem func_nil (f : Fn) (x y : Array Value) (w : World) : (binOp .eql 37 (.func f x y) .nilFunc).run Tryd.prog w = .ok (.bool false) w := by
  have h : (Op.equal 37 (.func f x y) .nilFunc).run Tryd.prog w = .ok false w := run_equalIn_func_nil 9999 f x y w
  simp only [binOp]
  simp [h]
abbrev eb : ByteArray := ⟨#[195, 169, 98]⟩
theorem eb_n : rc eb 0 = 2 := by decide +kernel
theorem eb_0 : plc eb 0 = (0, 233) := by decide +kernel
theorem eb_1 : plc eb 1 = (2, 98) := by decide +kernel
theorem begun1 : CallIs 6 #[.string ⟨#[97, 195, 169, 98]⟩, .int .i64 2] (.tuple #[.string ⟨#[97, 195, 169]⟩, .int .i64 0]) := by
  have := left_yes ⟨#[97, 195, 169, 98]⟩ 2 (by decide) (by decide) (by decide)
  rw [show (ByteArray.extract ⟨#[97, 195, 169, 98]⟩ 0 (sk ⟨#[97, 195, 169, 98]⟩ (2 : Int).toNat 0)) = ⟨#[97, 195, 169]⟩ by decide +kernel] at this
  exact this
theorem begun2 : CallT 7 #[.string ⟨#[98]⟩, .string eb, .int .i64 1] (.tuple #[.int .i64 2, .int .i64 0]) := by
  have := find_yes ⟨#[98]⟩ eb 1 (by decide) (by decide) (by rw [eb_n]; decide)
  rw [show fnd eb ⟨#[98]⟩ (rc eb 0 + 2 - 1) 1 = some 2 by decide +kernel] at this
  exact this
theorem begun3 : CallIs 8 #[.string ⟨#[255]⟩] (.tuple #[.int .i64 65533, .int .i64 0]) := by
  have := code_yes ⟨#[255]⟩ (by decide)
  rw [show nr ⟨#[255]⟩ 0 = 65533 by decide +kernel] at this
  exact this
theorem begun4 : CallIs 9 #[.int .i64 55296] (.tuple #[.string no, .int .i64 1]) := char_no 55296 (by unfold isR; decide)
theorem begun5 : CallIs 11 #[.string ⟨#[226, 130]⟩] (.int .i64 2) := by
  have := len_any ⟨#[226, 130]⟩ (by decide)
  rw [show rc ⟨#[226, 130]⟩ 0 = 2 by decide +kernel] at this
  exact this
theorem begun6 : CallIs 12 #[.string ⟨#[97, 98]⟩] (.string ⟨#[98, 97]⟩) := by
  have := turn_any ⟨#[97, 98]⟩ (by decide)
  rw [show turned ⟨#[97, 98]⟩ = ⟨#[98, 97]⟩ by decide +kernel] at this
  exact this

set_option maxHeartbeats 2000000 in
set_option maxRecDepth 100000 in
theorem begun_any : CallT 4 #[] (.bool true) := by
  intro w hT
  have H1 := begun1
  have H2 := begun2
  have H3 := begun3
  have H4 := begun4
  have H5 := begun5
  have H6 := begun6
  have HA := hide (all_any eb)
  have hfn := func_nil
  replace hT := hide hT
  refine (callsIn_wide (n := 12)).1 (callsIn_of_wp_marks Tryd.func4 rfl trivial (wpIn_wide.2 ?_) rfl)
  simp only [Tryd.ntmps4, List.size_toArray, List.length_nil, Nat.reduceSub, Array.replicate_succ, Array.replicate_zero, List.push_toArray, List.append_toArray, List.nil_append, List.cons_append]
  try simp only [List.append]
  go_wp2_with fail
  refine (H1.out _).mono ?_
  rintro e w1 ⟨rfl, hb1⟩
  have B1 := hide (next (step (Below.refl w.heap.size w) _) hb1)
  have rb := hide ((Blk.new w #[.bool false] 4).keep hb1)
  have T1 := hide (hT.out.keep B1.out)
  go_wp2_with fail
  refine (H2.out _ T1.out).mono ?_
  rintro e w2 ⟨rfl, hb2⟩
  replace B1 := hide (next B1.out hb2)
  replace rb := hide (rb.out.keep hb2)
  go_wp2_with fail
  refine (H3.out _).mono ?_
  rintro e w3 ⟨rfl, hb3⟩
  replace B1 := hide (next B1.out hb3)
  replace rb := hide (rb.out.keep hb3)
  go_wp2_with fail
  refine (H4.out _).mono ?_
  rintro e w4 ⟨rfl, hb4⟩
  replace B1 := hide (next B1.out hb4)
  replace rb := hide (rb.out.keep hb4)
  clear hb1 hb2 hb3 hb4 T1
  have rb0 := rb.out.lt
  go_wp2_with (go_at_call 10; refine (HA.out _).mono ?_; rintro e w' ⟨rfl, rfl⟩)
  have kb := hide ((Blk.new w4 #[.int .i64 0] 3).alloc (.cells #[.string eb] 9))
  have na := hide (Blk.new (w4.alloc (.cells #[.int .i64 0] 3)) #[.string eb] 9)
  simp only [World.size_alloc] at kb na
  replace rb := hide ((rb.out.alloc (.cells #[.int .i64 0] 3)).alloc (.cells #[.string eb] 9))
  have zw := rb0
  replace B1 := hide (step (step B1.out (.cells #[.int .i64 0] 3)) (.cells #[.string eb] 9))
  obtain ⟨W0, hW0⟩ : ∃ W0, (w4.alloc (.cells #[.int .i64 0] 3)).alloc (.cells #[.string eb] 9) = W0 := ⟨_, rfl⟩
  have z0 : Hid (W0.heap.size = w4.heap.size + 2) := hide (by rw [← hW0]; simp)
  rw [hW0] at rb kb na B1 ⊢
  clear hW0
  refine range_out (n := 12) (by decide) (fun ts x => (ts.setIfInBounds 11 (.int .i64 x.1)).setIfInBounds 12 (.int .i32 x.2)) (gives 11 (w4.heap.size + 1) (by decide) eb W0 na.out.c1) rfl
    (fun pre W => (W0.grownBy W (some w4.heap.size) ∧ Blk W w4.heap.size #[.int .i64 pre.length] 3) ∧ pre = upto eb pre.length)
    (fun c pre W => NoFront eb pre)
    (OwnFrom.and (OwnFrom.and (ownFrom_grown W0 _) (Own.from (Blk.own _ _ _) _)) (ownFrom_pure _ _))
    (fun c => ownFrom_pure _ _)
    ⟨⟨grown_refl _ _, kb.out⟩, rfl⟩ ?assign ?body ?done ?stop
  case assign =>
    intro lo x W K hK
    gi_wp2
    exact hK
  case body =>
    rintro lo pre ⟨x1, x2⟩ W hlo hr ⟨⟨hg, bk⟩, hp⟩ hlt
    simp only [fr2, List.setIfInBounds_toArray, List.set_cons_succ, List.set_cons_zero]
    have ck := bk.c1
    have fk := bk.fr 0
    have rB := rb.out.kept hg (by simp; omega)
    have fr := rB.fr 0
    have fc := rB.c1
    rw [eb_n] at hlt
    generalize hm : pre.length = m at *
    replace hp := hide hp
    have hz := hg.size
    have zz := z0.out
    clear rB hr
    replace hm := hide hm
    replace hg := hide hg
    replace bk := hide bk
    obtain rfl | rfl : m = 0 ∨ m = 1 := by omega
    · by_cases c1 : x1 = 0
      · by_cases c2 : x2 = 233
        · have c1' : (x1 != 0) = false := by simpa using c1
          have c2' : (x2 != 233) = false := by simpa using c2
          replace c1 := hide c1
          replace c2 := hide c2
          gi_wp2
          refine ⟨(KeepsOthers.setCell _ _ _).from _, KeepsWalks.setCell _ _ _, ⟨grown_set hg.out _, ?_⟩, ?_⟩
          · rw [List.length_append, hm.out]; exact bk.out.set _
          · rw [List.length_append, hm.out]; simp only [List.length_singleton]; rw [upto_succ, eb_0, ← hp.out, c1.out, c2.out]
        · have c2' : (x2 != 233) = true := by simpa using c2
          have c1' : (x1 != 0) = false := by simpa using c1
          replace c2 := hide c2
          clear c1
          gi_wp2
          refine ⟨(KeepsOthers.setCell _ _ _).from _, ?_⟩
          rw [hp.out]
          exact noFront_of (by rw [eb_0]; intro h; exact c2.out (congrArg Prod.snd h))
      · have c1' : (x1 != 0) = true := by simpa using c1
        replace c1 := hide c1
        gi_wp2
        refine ⟨(KeepsOthers.setCell _ _ _).from _, ?_⟩
        rw [hp.out]
        exact noFront_of (by rw [eb_0]; intro h; exact c1.out (congrArg Prod.fst h))
    · by_cases c1 : x1 = 2
      · by_cases c2 : x2 = 98
        · have c1' : (x1 != 2) = false := by simpa using c1
          have c2' : (x2 != 98) = false := by simpa using c2
          replace c1 := hide c1
          replace c2 := hide c2
          gi_wp2
          refine ⟨(KeepsOthers.setCell _ _ _).from _, KeepsWalks.setCell _ _ _, ⟨grown_set hg.out _, ?_⟩, ?_⟩
          · rw [List.length_append, hm.out]; exact bk.out.set _
          · rw [List.length_append, hm.out]; simp only [List.length_singleton]; rw [upto_succ, eb_1, ← hp.out, c1.out, c2.out]
        · have c2' : (x2 != 98) = true := by simpa using c2
          have c1' : (x1 != 2) = false := by simpa using c1
          replace c2 := hide c2
          clear c1
          gi_wp2
          refine ⟨(KeepsOthers.setCell _ _ _).from _, ?_⟩
          rw [hp.out]
          exact noFront_of (by rw [eb_1]; intro h; exact c2.out (congrArg Prod.snd h))
      · have c1' : (x1 != 2) = true := by simpa using c1
        replace c1 := hide c1
        gi_wp2
        refine ⟨(KeepsOthers.setCell _ _ _).from _, ?_⟩
        rw [hp.out]
        exact noFront_of (by rw [eb_1]; intro h; exact c1.out (congrArg Prod.fst h))
  case done =>
    rintro D W hD ⟨⟨hg, bk⟩, _⟩ hK
    rw [upto_len, eb_n] at bk
    have ck := bk.c1
    have rB := rb.out.kept hg (by simp; omega)
    have BW := hide (grown_is_below B1.out hg (by omega))
    have hKD := hide hK
    clear hK hg bk
    go_wp2_with fail
    refine (H5.out _).mono ?_
    rintro e w5 ⟨rfl, hb5⟩
    have rD := rB.keep hb5
    have K5 := hide ((hb5.block D (Array.getElem?_eq_some_iff.1 hKD.out).1).trans hKD.out)
    have B5 := hide (next BW.out hb5)
    clear hb5
    go_wp2_with fail
    refine (H6.out _).mono ?_
    rintro e w6 ⟨rfl, hb6⟩
    replace rD := rD.keep hb6
    have fr := rD.fr 0
    have fc := rD.c1
    have K6 := hide ((hb6.block D (Array.getElem?_eq_some_iff.1 K5.out).1).trans K5.out)
    have B6 := hide (next B5.out hb6)
    clear hb6
    go_wp2_with fail
    have hK' := (KeepsOthers.setCell w6 ⟨w.heap.size, 0, none⟩ (.bool true)).same D _ K6.out rfl
    refine ⟨by simp, .inl ⟨_, _, rfl, run_takeDeferred hK', ?_⟩⟩
    have hc5 := cell_kept (rD.set (.bool true)).c1 (grownBy_putObj' _ D (.deferred none)) (fun r e => by cases e; exact ⟨_, hK', rfl⟩)
    have zz := z0.out
    refine ⟨.bool true, ?_, rfl, (B6.out.setCell (p := ⟨w.heap.size, 0, none⟩) (Nat.le_refl _) _).trans (belowK_b (w := w) (Nat.le_refl _) _ D _ _ (by omega) hK' rfl rfl)⟩
    simp [results, Tryd.f4, go_sem, hc5]
  case stop =>
    rintro D c k W hD hk h hK
    exact (h ⟨k, hk, rfl⟩).elim
end Go.Proofs.YtllbgjeibcaajaaDoor
