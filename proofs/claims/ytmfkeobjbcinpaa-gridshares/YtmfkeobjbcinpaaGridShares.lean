/- GridShares: things with memory of their own share it with whoever laid them; two tables of one type know nothing of each other: the walk of the law. Proved of the Go text. -/
import Derived.Test.YtmfkeobjbcinpaaBegun7
import Derived.Test.YtmfkeobjbcinpaaTyp7P
import Derived.Test.YtmfkeobjbcinpaaTyp7G
import Derived.Test.YtmfkeobjbcinpaaArgs7
import Derived.Lib.Builder
namespace Go.Proofs.Ytmfkeobjbcinpaa
open Go.RowKit Go.Shelf Go.Sort Go.Maps
set_option linter.unusedVariables false

set_option maxRecDepth 100000 in
theorem ptr_self (a : Addr) (w : World) : (binOp .neq 57 (.pointer (some a)) (.pointer (some a))).run Try.prog w = .ok (.bool false) w := Go.Lib.run_neq_ptr_same w a Try.underlying57 (te := 62) (j := _) rfl
theorem Blk.setAt {W : World} {B : Nat} {vs : Array Value} {t : TypeId} (h : Blk W B vs t) (j : Nat) (v : Value) : Blk (W.setCell ⟨B, j, none⟩ v) B (vs.setIfInBounds j v) t := by
  obtain ⟨hlt, hk⟩ := Array.getElem?_eq_some_iff.1 (show W.heap[B]? = _ from h)
  show (W.heap.modify B _)[B]? = _
  rw [Array.getElem?_eq_getElem (by rw [Array.size_modify]; exact hlt), Array.getElem_modify_self, hk]
  simp
theorem grown_setAt (W : World) (B j : Nat) (v : Value) : W.grownBy (W.setCell ⟨B, j, none⟩ v) (some B) :=
  ⟨rfl, rfl, rfl, (KeepsWalks.setCell W _ v).size, fun k _ hk => Below.heap_setCell _ _ _ k (fun e => hk (by rw [e]))⟩
theorem has_keys {α β : Type} {L : Tb α} {M : Tb β} (h : keysT L = keysT M) (s : Sp) : hasT L s = hasT M s := by
  rw [Bool.eq_iff_iff, hasT_iff, hasT_iff, h]
theorem len_keys {α β : Type} {L : Tb α} {M : Tb β} (h : keysT L = keysT M) : L.length = M.length := by
  have := congrArg List.length h
  simpa [keysT] using this
theorem setE_keys {α β : Type} {L : Tb α} {M : Tb β} (h : keysT L = keysT M) (s : Sp) : setE L s = setE M s := by unfold setE; rw [has_keys h, len_keys h]
theorem ins_keys {α β : Type} : ∀ {L : Tb α} {M : Tb β}, keysT L = keysT M → ∀ (s : Sp) (x : α) (y : β), keysT (insT L s x) = keysT (insT M s y)
  | [], [], _, s, x, y => rfl
  | [], _ :: _, h, _, _, _ => by simp [keysT] at h
  | _ :: _, [], h, _, _, _ => by simp [keysT] at h
  | p :: L, q :: M, h, s, x, y => by
    have h1 : p.1 = q.1 := by simpa [keysT] using congrArg List.head? h
    have h2 : keysT L = keysT M := by simpa [keysT] using congrArg List.tail h
    unfold insT
    rw [h1]
    by_cases a : ltS q.1 s
    · rw [if_pos a, if_pos a]
      have ih := ins_keys h2 s x y
      simp only [keysT, List.map_cons] at ih ⊢
      rw [h1, ih]
    · rw [if_neg a, if_neg a]
      by_cases b : q.1 = s
      · rw [if_pos b, if_pos b]
        simp only [keysT, List.map_cons] at h2 ⊢
        rw [h2]
      · rw [if_neg b, if_neg b]
        simp only [keysT, List.map_cons] at h2 ⊢
        rw [h1, h2]
theorem setL_keys {α β : Type} {L : Tb α} {M : Tb β} (h : keysT L = keysT M) (s : Sp) (x : α) (y : β) : keysT (setL L s x) = keysT (setL M s y) := by
  unfold setL
  rw [setE_keys h]
  split
  · exact ins_keys h s x y
  · exact h
/-- Behind Set: what lies there is what was laid, or nothing does. -/
theorem set_get {α : Type} {L : Tb α} (hs : SortT L) (hm : ∀ p ∈ L, mayB p.1.1 p.1.2 = true) (s : Sp) (x : α) : (setE L s = 0 ∧ getT (setL L s x) s = some x ∧ hasT (setL L s x) s = true) ∨ ((setE L s == 0) = false ∧ getT (setL L s x) s = none ∧ hasT (setL L s x) s = false) := by
  rcases setE_cases L s x with ⟨h1, e1, e2⟩ | ⟨h1, hh, hf, e1, e2⟩ | ⟨h1, hh, hf, e1, e2⟩ | ⟨h1, hh, e1, e2⟩
  · have hn : getT L s = none := by
      cases hg : getT L s with
      | none => rfl
      | some y => have := hm _ (getT_some hg); simp only [h1] at this; cases this
    refine .inr ⟨by rw [e1]; rfl, by rw [e2, hn], by rw [e2]; unfold hasT; rw [hn]; rfl⟩
  · have hn : getT L s = none := by
      cases hg : getT L s with
      | none => rfl
      | some y => unfold hasT at hh; rw [hg] at hh; cases hh
    refine .inr ⟨by rw [e1]; rfl, by rw [e2, hn], by rw [e2]; exact hh⟩
  · have hg : getT (insT L s x) s = some x := by rw [getT_insT hs, if_pos rfl]
    exact .inl ⟨e1, by rw [e2, hg], by rw [e2]; unfold hasT; rw [hg]; rfl⟩
  · have hg : getT (insT L s x) s = some x := by rw [getT_insT hs, if_pos rfl]
    exact .inl ⟨e1, by rw [e2, hg], by rw [e2]; unfold hasT; rw [hg]; rfl⟩
theorem set_things {L : Tb Value} (hs : SortT L) (hT : ∀ p ∈ L, IsThing p.2) (s : Sp) {v : Value} (hv : IsThing v) : ∀ p ∈ setL L s v, IsThing p.2 := by
  unfold setL
  split
  · intro p hp
    rcases (mem_insT hs).1 hp with rfl | ⟨h, _⟩
    · exact hv
    · exact hT p h
  · exact hT
/-- What GridShares keeps between two rounds. -/
structure Sh (W wr : World) (BtP bP BtG bG BtV bV : Nat) (LP LG : Tb Value) : Prop where
  tp : TabAt wr 105 BtP bP LP
  tg : TabAt wr 108 BtG bG LG
  tv : TabAt wr 108 BtV bV []
  keys : keysT LP = keysT LG
  things : ∀ p ∈ LG, IsThing p.2
  bel : Below W.heap.size W wr
/-- The blocks of the three tables are different ones, none of them handed in. -/
def Ap (W : World) (BtP bP BtG bG BtV bV : Nat) : Prop := W.heap.size ≤ bP ∧ W.heap.size ≤ bG ∧ BtP ≠ bG ∧ bP ≠ bG ∧ BtG ≠ bP ∧ BtV ≠ bP ∧ BtV ≠ bG ∧ bV ≠ bP ∧ bV ≠ bG
theorem both {LP LG : Tb Value} {r c : Int} (sP : SortT LP) (mP : ∀ p ∈ LP, mayB p.1.1 p.1.2 = true) (sG : SortT LG) (mG : ∀ p ∈ LG, mayB p.1.1 p.1.2 = true) (E : setE LP (r, c) = setE LG (r, c)) {X Y k : Nat} :
    ∃ (p : Option Addr) (q : Bool) (x : Int) (a : Option Addr) (m : Nat), (getT (setL LP (r, c) (.pointer (some ⟨X, 0, none⟩))) (r, c)).getD (.pointer none) = .pointer p ∧ hasT (setL LP (r, c) (.pointer (some ⟨X, 0, none⟩))) (r, c) = q ∧
      (getT (setL LG (r, c) (thingV k (some ⟨Y, 0, none⟩) 1 1 none)) (r, c)).getD (.agg #[.int .i64 0, .slice none 0 0, .pointer none]) = thingV x a m m none ∧ hasT (setL LG (r, c) (thingV k (some ⟨Y, 0, none⟩) 1 1 none)) (r, c) = q ∧
      ((q = true ∧ setE LG (r, c) = 0 ∧ p = some ⟨X, 0, none⟩ ∧ x = k ∧ a = some ⟨Y, 0, none⟩ ∧ m = 1) ∨ (q = false ∧ (setE LG (r, c) == 0) = false ∧ p = none ∧ x = 0 ∧ a = none ∧ m = 0)) := by
  rcases set_get sG mG (r, c) (thingV k (some ⟨Y, 0, none⟩) 1 1 none) with ⟨e, g1, g2⟩ | ⟨e, g1, g2⟩ <;> rcases set_get sP mP (r, c) (.pointer (some ⟨X, 0, none⟩)) with ⟨e', h1, h2⟩ | ⟨e', h1, h2⟩
  · exact ⟨some ⟨X, 0, none⟩, true, k, some ⟨Y, 0, none⟩, 1, by rw [h1]; rfl, h2, by rw [g1]; rfl, g2, .inl ⟨rfl, e, rfl, rfl, rfl, rfl⟩⟩
  · rw [E, e] at e'; cases e'
  · rw [← E, e'] at e; cases e
  · exact ⟨none, false, 0, none, 0, by rw [h1]; rfl, h2, by rw [g1]; rfl, g2, .inr ⟨rfl, e, rfl, rfl, rfl, rfl⟩⟩
/-- What GridShares keeps within a round. -/
structure Rd (W w : World) (BtP bP BtG bG BtV bV X Y b off k : Nat) (r c : Int) (LP LG : Tb Value) (vx vy : Array Value) : Prop where
  tp : TabAt w 105 BtP bP LP
  tg : TabAt w 108 BtG bG LG
  tv : TabAt w 108 BtV bV []
  bel : Below W.heap.size W w
  bx : Blk w X vx 62
  bY : Blk w Y vy 3
  pl : PlAt w b off k r c
  ap : Ap W BtP bP BtG bG BtV bV
  sp : b < W.heap.size ∧ W.heap.size ≤ Y ∧ Y < X ∧ BtP < Y ∧ bP < Y ∧ BtG < Y ∧ bG < Y ∧ BtV < Y ∧ bV < Y
section
variable {W w w' : World} {BtP bP BtG bG BtV bV X Y b off k : Nat} {r c : Int} {LP LG : Tb Value} {vx vy : Array Value}
theorem Rd.keep (h : Rd W w BtP bP BtG bG BtV bV X Y b off k r c LP LG vx vy) (hb : Below w.heap.size w w') : Rd W w' BtP bP BtG bG BtV bV X Y b off k r c LP LG vx vy :=
  ⟨h.tp.keep hb, h.tg.keep hb, h.tv.keep hb, next h.bel hb, h.bx.keep hb, h.bY.keep hb, h.pl.keep hb, h.ap, h.sp⟩
theorem Rd.setP (h : Rd W w BtP bP BtG bG BtV bV X Y b off k r c LP LG vx vy) {L' : Tb Value} (ht : TabAt w' 105 BtP bP L') (hg : w.grownBy w' (some bP)) : Rd W w' BtP bP BtG bG BtV bV X Y b off k r c L' LG vx vy := by
  have ap := h.ap
  have sp := h.sp
  unfold Ap at ap
  exact ⟨ht, h.tg.kept hg (by simp; omega) (by simp; omega), h.tv.kept hg (by simp; omega) (by simp; omega), h.bel.grown hg h.bel.size (fun k e => by cases e; omega), h.bx.kept hg (by simp; omega), h.bY.kept hg (by simp; omega), h.pl.same (hg.block b h.pl.lt (by simp; omega)), h.ap, h.sp⟩
theorem Rd.setG (h : Rd W w BtP bP BtG bG BtV bV X Y b off k r c LP LG vx vy) {L' : Tb Value} (ht : TabAt w' 108 BtG bG L') (hg : w.grownBy w' (some bG)) : Rd W w' BtP bP BtG bG BtV bV X Y b off k r c LP L' vx vy := by
  have ap := h.ap
  have sp := h.sp
  unfold Ap at ap
  exact ⟨h.tp.kept hg (by simp; omega) (by simp; omega), ht, h.tv.kept hg (by simp; omega) (by simp; omega), h.bel.grown hg h.bel.size (fun k e => by cases e; omega), h.bx.kept hg (by simp; omega), h.bY.kept hg (by simp; omega), h.pl.same (hg.block b h.pl.lt (by simp; omega)), h.ap, h.sp⟩
theorem Rd.setX (h : Rd W w BtP bP BtG bG BtV bV X Y b off k r c LP LG vx vy) (j : Nat) (v : Value) : Rd W (w.setCell ⟨X, j, none⟩ v) BtP bP BtG bG BtV bV X Y b off k r c LP LG (vx.setIfInBounds j v) vy := by
  have hg := grown_setAt w X j v
  have ap := h.ap
  have sp := h.sp
  unfold Ap at ap
  exact ⟨h.tp.kept hg (by simp; omega) (by simp; omega), h.tg.kept hg (by simp; omega) (by simp; omega), h.tv.kept hg (by simp; omega) (by simp; omega), h.bel.grown hg h.bel.size (fun k e => by cases e; omega), h.bx.setAt j v, h.bY.kept hg (by simp; omega), h.pl.same (hg.block b h.pl.lt (by simp; omega)), h.ap, h.sp⟩
theorem Rd.setY (h : Rd W w BtP bP BtG bG BtV bV X Y b off k r c LP LG vx vy) (j : Nat) (v : Value) : Rd W (w.setCell ⟨Y, j, none⟩ v) BtP bP BtG bG BtV bV X Y b off k r c LP LG vx (vy.setIfInBounds j v) := by
  have hg := grown_setAt w Y j v
  have ap := h.ap
  have sp := h.sp
  unfold Ap at ap
  exact ⟨h.tp.kept hg (by simp; omega) (by simp; omega), h.tg.kept hg (by simp; omega) (by simp; omega), h.tv.kept hg (by simp; omega) (by simp; omega), h.bel.grown hg h.bel.size (fun k e => by cases e; omega), h.bx.kept hg (by simp; omega), h.bY.setAt j v, h.pl.same (hg.block b h.pl.lt (by simp; omega)), h.ap, h.sp⟩
end
set_option maxHeartbeats 8000000 in
set_option maxRecDepth 100000 in
theorem gridShares_walk {W : World} (a : Option Addr) (len cap : Nat) (hin : PlacesIn W a len cap) : Calls Try.prog 5 #[.slice a len cap] W fun e w' => e = .returned (.bool true) ∧ Below W.heap.size W w' := by
  obtain ⟨hlc, hcm, hpl⟩ := hin
  have hlen : len ≤ 9223372036854775807 := by unfold maxLen at hcm; omega
  replace hpl := hide hpl
  clear hlc hcm
  go_enter Try.func5, Try.ntmps5
  try simp only [List.append]
  go_wp2_with fail
  refine (begun_any _).mono ?_
  rintro e w1 ⟨rfl, hb1⟩
  have B1 := hide hb1
  clear hb1
  go_wp2_with fail
  refine (newP_any _).mono ?_
  rintro e w2 ⟨BtP, bP, rfl, h1, h2, T2, hb2⟩
  have z1 := B1.out.size
  have lP := T2.lt
  have B2 := hide (next B1.out hb2)
  replace T2 := hide T2
  clear hb2
  go_wp2_with fail
  refine (newG_any _).mono ?_
  rintro e w3 ⟨BtG, bG, rfl, h3, h4, G3, hb3⟩
  have lG := G3.lt
  have T3 := hide (T2.out.keep hb3)
  have B3 := hide (next B2.out hb3)
  replace G3 := hide G3
  clear hb3
  go_wp2_with fail
  refine (newG_any _).mono ?_
  rintro e w4 ⟨BtV, bV, rfl, h5, h6, V4, hb4⟩
  have S4 := hide (Sh.mk (W := W) (T3.out.keep hb4) (G3.out.keep hb4) V4 rfl (fun p hp => by simp at hp) (next B3.out hb4))
  have AP : Hid (Ap W BtP bP BtG bG BtV bV) := hide (by have := T3.out.ne; unfold Ap; omega)
  clear hb4 V4 T2 T3 G3 B1 B2 B3 z1 lP lG h1 h2 h3 h4 h5 h6
  go_wp2_with fail
  go_loopw [6] (fun i wr => ∃ (k : Nat) (LP LG : Tb Value), k ≤ len ∧ i = .int .i64 k ∧ Hid (Sh W wr BtP bP BtG bG BtV bV LP LG)) (fun i _ => len - (intOf i).toNat)
  case atStart => exact ⟨0, [], [], Nat.zero_le _, rfl, S4⟩
  case round =>
    clear S4
    obtain ⟨k, LP, LG, hk, rfl, S⟩ := hrel
    by_cases hlt : (k : Int) < len
    · by_cases h300 : (k : Int) < 300
      · have hkn : k < len := by omega
        obtain ⟨b, off, rfl, hc⟩ : ∃ b off, a = some ⟨b, off, none⟩ ∧ ∀ j, j < len → ∃ r c, PlAt W b off j r c ∧ wfI r ∧ wfI c := by rcases hpl.out with h | h; omega; exact h
        obtain ⟨r, c, hA0, wr', wc'⟩ := hc k hkn
        have AA := hide (hA0.keep S.out.bel)
        have w1000 : Hid (wrap64 ((k : Int) + 1000) = (k : Int) + 1000) := hide (IntWalk.wrap64_in _ ⟨by omega, by omega⟩)
        have hbW := hA0.lt
        clear hA0 hc
        have sgP := S.out.tp.2.sorted
        have mP := S.out.tp.2.may
        have E := setE_keys S.out.keys (r, c)
        have XY : Hid (wr.heap.size = wr.heap.size) := hide rfl
        obtain ⟨wA, hwA⟩ : ∃ wA, (wr.alloc (.cells #[.int .i64 k] 3)).alloc (thingO (.int .i64 k) (.slice (some ⟨wr.heap.size, 0, none⟩) 1 1) (.pointer none)) = wA := ⟨_, rfl⟩
        have bY := hide ((Blk.new wr #[.int .i64 k] 3).alloc (thingO (.int .i64 k) (.slice (some ⟨wr.heap.size, 0, none⟩) 1 1) (.pointer none)))
        have bX := hide (Blk.new (wr.alloc (.cells #[.int .i64 k] 3)) #[.int .i64 k, .slice (some ⟨wr.heap.size, 0, none⟩) 1 1, .pointer none] 62)
        have zA : Hid (wA.heap.size = wr.heap.size + 2) := hide (by rw [← hwA]; simp)
        simp only [World.size_alloc] at bX
        have hbA : Below wr.heap.size wr wA := by rw [← hwA]; exact step (step (Below.refl _ _) _) _
        rw [hwA] at bX bY
        have SA := hide (Sh.mk (S.out.tp.keep hbA) (S.out.tg.keep hbA) (S.out.tv.keep hbA) S.out.keys S.out.things (next S.out.bel hbA))
        have AA2 := hide (AA.out.keep hbA)
        have zlt := hide S.out.tp.lt
        have zlt2 := hide S.out.tg.lt
        have zlt3 := hide S.out.tv.lt
        have zW := hide S.out.bel.size
        clear hbA AA
        obtain ⟨a0, a1⟩ := AA2.out
        have RA : Hid (Rd W wA BtP bP BtG bG BtV bV (wr.heap.size + 1) wr.heap.size b off k r c LP LG #[.int .i64 k, .slice (some ⟨wr.heap.size, 0, none⟩) 1 1, .pointer none] #[.int .i64 k]) := hide ⟨SA.out.tp, SA.out.tg, SA.out.tv, SA.out.bel, bX.out, bY.out, AA2.out, AP.out, by have := zlt.out; have := zlt2.out; have := zlt3.out; have := zW.out; have := hbW; refine ⟨hbW, ?_⟩; omega⟩
        have HS := hide (tsetP (r := r) (c := c) SA.out.tp (.pointer (some ⟨wr.heap.size + 1, 0, none⟩)))
        have things := hide S.out.things
        have keys := hide S.out.keys
        have sgG := hide S.out.tg.2.sorted
        have mG := hide S.out.tg.2.may
        have fin := hide S.out.bel
        clear S SA bX bY AA2 zlt zlt2 zlt3 zW zA XY
        go_wp2_with fail
        refine HS.out.mono ?_
        rintro e w5 ⟨rfl, T5, g5⟩
        have R5 := hide (RA.out.setP T5 g5)
        have HG := hide (tsetG (r := r) (c := c) (show TabAt w5.drew _ _ _ _ from R5.out.tg) (x := k) (a := some ⟨wr.heap.size, 0, none⟩) (m := 1) (k := 1) (p := none) things.out)
        clear T5 g5 RA HS a0 a1 hwA
        obtain ⟨a0, a1⟩ := R5.out.pl
        obtain ⟨d0, d1, d2⟩ := R5.out.bx.c3
        go_wp2_with fail
        refine still_tail 8 (by kernel_rfl) (by kernel_rfl) ?_
        simp only [List.take_succ_cons, List.take_zero, List.drop_succ_cons, List.drop_zero]
        repeat still_step
        refine wpStill_nil ?_
        go_wp2_with fail
        refine HG.out.mono ?_
        rintro e w6 ⟨rfl, T6, g6⟩
        have R6 := hide (R5.out.setG T6 (grown_drew g6))
        clear T6 g6 R5 HG a0 a1 d0 d1 d2
        obtain ⟨d0, d1, d2⟩ := R6.out.bx.c3
        have fx := R6.out.bx.fr 0
        obtain ⟨w7, hw7⟩ : ∃ w7, w6.setCell ⟨wr.heap.size + 1, 0, none⟩ (.int .i64 ((k : Int) + 1000)) = w7 := ⟨_, rfl⟩
        have R7 := hide (R6.out.setX 0 (.int .i64 ((k : Int) + 1000)))
        rw [hw7] at R7
        simp only [Array.setIfInBounds] at R7
        obtain ⟨e0, e1, e2⟩ := R7.out.bx.c3
        have fy := R7.out.bY.fr 0
        have e3 := R7.out.bY.c1
        obtain ⟨w8, hw8⟩ : ∃ w8, w7.setCell ⟨wr.heap.size, 0, none⟩ (.int .i64 ((k : Int) + 2000)) = w8 := ⟨_, rfl⟩
        have R8 := hide (R7.out.setY 0 (.int .i64 ((k : Int) + 2000)))
        rw [hw8] at R8
        simp only [Array.setIfInBounds] at R8
        obtain ⟨a0, a1⟩ := R8.out.pl
        have HP := hide (getP_any R8.out.tp wr' wc')
        obtain ⟨p, q, x, a', m, gp1, gp2, gg1, gg2, hcase⟩ := both sgP mP sgG.out mG.out E (X := wr.heap.size + 1) (Y := wr.heap.size) (k := k)
        rw [gp1, gp2] at HP
        replace hcase := hide hcase
        clear gp1 gp2
        go_wp2_with fail
        refine HP.out.mono ?_
        rintro e w9 ⟨rfl, hb9⟩
        have R9 := hide (R8.out.keep hb9)
        clear hb9 R8 R7 R6 HP a0 a1 d0 d1 d2 e0 e1 e2 e3 fx fy hw7 hw8
        obtain ⟨a0, a1⟩ := R9.out.pl
        have thG := hide (set_things sgG.out things.out (r, c) (v := thingV k (some ⟨wr.heap.size, 0, none⟩) 1 1 none) ⟨_, _, _, _, _, rfl⟩)
        have HQ := hide (getG_any R9.out.tg wr' wc' (thing_get thG.out (r, c)))
        rw [gg1, gg2] at HQ
        clear gg1 gg2
        go_wp2_with fail
        refine HQ.out.mono ?_
        rintro e w10 ⟨rfl, hb10⟩
        have R10 := hide (R9.out.keep hb10)
        clear hb10 R9 HQ a0 a1
        have bB := hide (Blk.new w10 #[.int .i64 x, .slice a' m m, .pointer none] 62)
        have R11 := hide (R10.out.keep (w' := w10.alloc (thingO (.int .i64 x) (.slice a' m m) (.pointer none))) (step (Below.refl _ _) _))
        obtain ⟨a0, a1⟩ := R11.out.pl
        have HV := hide (getG_any (r := r) (c := c) R11.out.tv wr' wc' ⟨0, none, 0, 0, none, rfl⟩)
        rw [show getT ([] : Tb Value) (r, c) = none from rfl, show hasT ([] : Tb Value) (r, c) = false from rfl] at HV
        go_wp2_with fail
        refine HV.out.mono ?_
        rintro e w12 ⟨rfl, hb12⟩
        have R12 := hide (R11.out.keep hb12)
        have bB2 := hide (bB.out.keep hb12)
        clear hb12 R11 R10 HV a0 a1 bB
        have bB3 := hide (bB2.out.alloc (thingO (.int .i64 0) (.slice none 0 0) (.pointer none)))
        have bC := hide (Blk.new w12 #[.int .i64 0, .slice none 0 0, .pointer none] 62)
        have R13 := hide (R12.out.keep (w' := w12.alloc (thingO (.int .i64 0) (.slice none 0 0) (.pointer none))) (step (Below.refl _ _) _))
        obtain ⟨d0, d1, d2⟩ := bB3.out.c3
        obtain ⟨e0, e1, e2⟩ := bC.out.c3
        obtain ⟨f0, f1, f2⟩ := R13.out.bx.c3
        have y0 := R13.out.bY.c1
        have S13 : Hid (Sh W (w12.alloc (thingO (.int .i64 0) (.slice none 0 0) (.pointer none))) BtP bP BtG bG BtV bV (setL LP (r, c) (.pointer (some ⟨wr.heap.size + 1, 0, none⟩))) (setL LG (r, c) (thingV k (some ⟨wr.heap.size, 0, none⟩) 1 1 none))) := hide ⟨R13.out.tp, R13.out.tg, R13.out.tv, setL_keys keys.out _ _ _, thG.out, R13.out.bel⟩
        clear R12 bB2 bB3 bC R13 thG keys things sgG mG sgP mP E fin
        rcases hcase.out with ⟨rfl, hE, rfl, rfl, rfl, rfl⟩ | ⟨rfl, hE, rfl, rfl, rfl, rfl⟩
        · clear hcase
          have hpn := ptr_self
          go_wp2_with fail
          refine ⟨⟨k + 1, _, _, by omega, by go_num, S13⟩, ?_⟩
          simp [intOf]; omega
        · clear hcase
          go_wp2_with fail
          refine ⟨⟨k + 1, _, _, by omega, by go_num, S13⟩, ?_⟩
          simp [intOf]; omega
      · have HL1 := hide (lenP_any S.out.tp)
        have HL2 := hide (lenG_any S.out.tg)
        have HL3 := hide (lenG_any S.out.tv)
        have lk := len_keys S.out.keys
        rw [lk] at HL1
        go_wp2_with fail
        refine HL1.out.mono ?_
        rintro e w' ⟨rfl, rfl⟩
        go_wp2_with fail
        refine HL2.out.mono ?_
        rintro e w' ⟨rfl, rfl⟩
        go_wp2_with fail
        refine HL3.out.mono ?_
        rintro e w' ⟨rfl, rfl⟩
        go_wp2_with fail
        go_ret
        exact ⟨rfl, S.out.bel⟩
    · have HL1 := hide (lenP_any S.out.tp)
      have HL2 := hide (lenG_any S.out.tg)
      have HL3 := hide (lenG_any S.out.tv)
      have lk := len_keys S.out.keys
      rw [lk] at HL1
      go_wp2_with fail
      refine HL1.out.mono ?_
      rintro e w' ⟨rfl, rfl⟩
      go_wp2_with fail
      refine HL2.out.mono ?_
      rintro e w' ⟨rfl, rfl⟩
      go_wp2_with fail
      refine HL3.out.mono ?_
      rintro e w' ⟨rfl, rfl⟩
      go_wp2_with fail
      go_ret
      exact ⟨rfl, S.out.bel⟩
end Go.Proofs.Ytmfkeobjbcinpaa
