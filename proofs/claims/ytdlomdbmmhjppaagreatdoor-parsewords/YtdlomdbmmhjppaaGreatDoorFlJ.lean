/- parse.Formula's deferred closure: the first fault becomes the answer. Proved of the Go text. parse.Formula: the tree of a formula that may be, or its first fault and the fault's place. Proved of the Go text. -/
import Derived.Test.YtdlomdbmmhjppaaGreatDoorPcJ
import Derived.Test.YtdlomdbmmhjppaaGreatDoorCoJ
import Derived.Test.YtdlomdbmmhjppaaGreatDoorQtJ
import Derived.Recover
import Derived.Test.YtdlomdbmmhjppaaGreatDoorTeJ
import Derived.Defers
namespace Go.Proofs.YtdlomdbmmhjppaaGreatDoor.T9
open Go.RowKit Go.Sort
set_option linter.unusedVariables false

/-- A region that opens with recover. -/
theorem wpS_recover {P : Program} {Q : Exit → Act → List Frame → World → Prop} {a : Act} {cs : List Frame} {w : World} {id : Nat} {o : Oper} {l : List Oper} {r : Value × List Frame}
    (hg : o.guard = none) (ho : o.op = Op.call { callee := Callee.builtin Builtin.recover, args := #[], argTypes := #[] }) (hrec : (recoverD cs).getD (.nilIface, cs) = r)
    (h : wpList P (o :: l).toArray (fun e a' w' => Q e a' r.2 w') l (a.put o.dst r.1) w) : (Code.region id (o :: l).toArray false).wpS P Q a cs w := by
  intro b k hb hr
  have h' : wpOps P (o :: l).toArray (fun e a' w' => Q e a' r.2 w') (List.range' 1 l.length) (a.put o.dst r.1) w := by
    rw [wpOps_eq_wpList l 1 (fun j => by simp [Nat.add_comm])]
    exact h
  obtain ⟨e, a', w', hq, harr⟩ := wp_ops _ _ w h' b k r.2
  have h0 : ((o :: l).toArray)[0]? = some o := by simp
  have hw : Region.wanted o (yielded (o :: l).toArray a.tmps) = true := by simp [Region.wanted, hg]
  have hrun : (execOp a.eval o).run P w = .ok .recover w := by
    unfold execOp
    simp [ho, resolve, invoke, builtin, go_sem]
  have hst := stepG_op (P := P) (b := b) (a := a) (k := k) (cs := cs) (w := w) (rest := List.range' 1 l.length) h0 hw
  have hfin : ∀ v, (b.at a (.inRegion (o :: l).toArray (0 :: List.range' 1 l.length) :: k)).finish v = b.at (a.put o.dst v) (.inRegion (o :: l).toArray (List.range' 1 l.length) :: k) := by
    intro v; rw [Frame.finish_at, h0]; rfl
  have hk : (b.at a (.inRegion (o :: l).toArray (0 :: List.range' 1 l.length) :: k)).kind = .deferred := hb
  have htr := tryRecover_deferred hk cs
  have hrg : List.range (o :: l).toArray.size = 0 :: List.range' 1 l.length := by
    rw [List.range_eq_range', show (o :: l).toArray.size = l.length + 1 by simp, List.range'_succ]
  refine ⟨e, a', r.2, w', hq, .of_steps (.head step_region (.one (step_lone_go (fr' := b.at (a.put o.dst r.1) (.inRegion (o :: l).toArray (List.range' 1 l.length) :: k)) ?_))) harr⟩
  rw [hrg, hst, ← hfin]
  simp only [Frame.at] at htr ⊢
  cases hc : recoverD cs with
  | none =>
    rw [hc] at hrec
    simp only [Option.getD_none] at hrec
    subst hrec
    simp [stepG.apply, hrun, htr, hc]
  | some q =>
    rw [hc] at hrec
    simp only [Option.getD_some] at hrec
    subst hrec
    simp [stepG.apply, hrun, htr, hc]
theorem as_yes (v : Value) (xT : TypeId) (w : World) : (Instr.typeAssert (.iface 65 v) xT 65 true).run Tryz.prog w = .ok (.tuple #[v, .bool true]) w := by
  simp [Instr.typeAssert, run_underlying Tryz.underlying65, go_sem, Result.andThen]
theorem zero_fault : (Tryz.prog.info? 65).map (·.zero) = some (some (.agg #[.int .i64 0, .int .i64 0])) := by kernel_rfl
theorem as_no (xT : TypeId) (w : World) : (Instr.typeAssert .nilIface xT 65 true).run Tryz.prog w = .ok (.tuple #[.agg #[.int .i64 0, .int .i64 0], .bool false]) w := by
  obtain ⟨i, hi, hz⟩ := Option.map_eq_some_iff.1 zero_fault
  simp [Instr.typeAssert, run_underlying Tryz.underlying65, go_sem, Result.andThen, typeInfo, zeroValue, hi, hz]
abbrev ndZ : Nd := ⟨0, 0, 0, ⟨#[]⟩, ⟨0, 0, false, false⟩, ⟨0, 0, false, false⟩, 0⟩
/-- The three results, as they lie. -/
structure Res3 (w : World) (X Y Z : Nat) (cs : Array Value) (a e : Int) : Prop where
  t : Blk w X cs 30
  a : Blk w Y #[.int .i64 a] 3
  e : Blk w Z #[.int .i64 e] 31
theorem Res3.keep {w w' : World} {X Y Z : Nat} {cs : Array Value} {a e : Int} (h : Res3 w X Y Z cs a e) (hb : Below w.heap.size w w') : Res3 w' X Y Z cs a e := ⟨h.t.keep hb, h.a.keep hb, h.e.keep hb⟩
theorem blk_gr {W W' : World} {B : Nat} {vs : Array Value} {ty : TypeId} {row : Option Nat} (h : Blk W B vs ty) (hg : W.grownBy W' row) (hne : some B ≠ row) : Blk W' B vs ty := (hg.block B h.lt hne).trans h
theorem Res3.put {w : World} {X Y Z : Nat} {cs cs' : Array Value} {a e : Int} (h : Res3 w X Y Z cs a e) (hXY : X ≠ Y) (hXZ : X ≠ Z) (hYZ : Y ≠ Z) (a' e' : Int) : Res3 (((w.setRow X cs').setCell ⟨Y, 0, none⟩ (.int .i64 a')).setCell ⟨Z, 0, none⟩ (.int .i64 e')) X Y Z cs' a' e' := by
  have h1 : Blk (w.setRow X cs') Y #[.int .i64 a] 3 := (setRow_other _ _ _ _ (Ne.symm hXY)).trans h.a
  have h2 : Blk (w.setRow X cs') Z #[.int .i64 e] 31 := (setRow_other _ _ _ _ (Ne.symm hXZ)).trans h.e
  have h0 : Blk (w.setRow X cs') X cs' 30 := setRow_heap _ _ _ _ _ _ h.t
  have ky := grown_set (w.setRow X cs') Y 0 (.int .i64 a')
  have kz := grown_set ((w.setRow X cs').setCell ⟨Y, 0, none⟩ (.int .i64 a')) Z 0 (.int .i64 e')
  refine ⟨blk_gr (blk_gr h0 ky (fun e => hXY (Option.some.inj e))) kz (fun e => hXZ (Option.some.inj e)), ?_, ?_⟩
  · exact blk_gr (h1.set 0 (.int .i64 a')) kz (fun e => hYZ (Option.some.inj e))
  · exact Blk.set (blk_gr h2 ky (fun e => hYZ (Option.some.inj e).symm)) 0 (.int .i64 e')
/-- What is set there. -/
abbrev set3 (w : World) (X Y Z : Nat) (cs : Array Value) (a e : Int) : World := ((w.setRow X cs).setCell ⟨Y, 0, none⟩ (.int .i64 a)).setCell ⟨Z, 0, none⟩ (.int .i64 e)
theorem below_set3 {n : Nat} {W w : World} (h : Below n W w) {X Y Z : Nat} (hX : n ≤ X) (hY : n ≤ Y) (hZ : n ≤ Z) (cs : Array Value) (a e : Int) : Below n W (set3 w X Y Z cs a e) := ((below_setRow h hX cs).setCell (p := ⟨Y, 0, none⟩) hY _).setCell (p := ⟨Z, 0, none⟩) hZ _
theorem set3_other {w : World} {X Y Z k : Nat} (hX : k ≠ X) (hY : k ≠ Y) (hZ : k ≠ Z) (cs : Array Value) (a e : Int) : (set3 w X Y Z cs a e).heap[k]? = w.heap[k]? :=
  (Below.heap_setCell _ _ _ k (fun e => hZ e)).trans ((Below.heap_setCell _ _ _ k (fun e => hY e)).trans (setRow_other _ _ _ _ hX))
/-- The world while the three results are set. -/
def stW (w : World) (X Y Z er a : Nat) (L : Nat → Bool) : World :=
  if L 7 = true then set3 w X Y Z (exC ndZ (.slice none 0 0)) (a : Int) (er : Int) else if L 6 = true then (w.setRow X (exC ndZ (.slice none 0 0))).setCell ⟨Y, 0, none⟩ (.int .i64 (a : Int)) else if L 5 = true then w.setRow X (exC ndZ (.slice none 0 0)) else w
theorem st_same {w : World} {X Y Z er a i : Nat} {L : Nat → Bool} (h5 : i ≠ 5) (h6 : i ≠ 6) (h7 : i ≠ 7) : stW w X Y Z er a L = stW w X Y Z er a (fun j => if j = i then true else L j) := by
  unfold stW
  simp only [if_neg (Ne.symm h5), if_neg (Ne.symm h6), if_neg (Ne.symm h7)]
theorem lk9 {L : Nat → Bool} {i j : Nat} (h : (fun j => if j = i then true else L j) j = true) (hne : j ≠ i) : L j = true := by
  simpa [hne] using h
theorem lk9b {L : Nat → Bool} {i j : Nat} (h : L j = true) : (fun j => if j = i then true else L j) j = true := by
  simp only
  split
  · rfl
  · exact h
theorem ld_st {w : World} {X Y Z er a F : Nat} (L : Nat → Bool) (h : Blk w F #[.int .i64 (er : Int), .int .i64 (a : Int)] 65) (hX : X ≠ F) (hY : Y ≠ F) (hZ : Z ≠ F) : (stW w X Y Z er a L).cell? ⟨F, 0, none⟩ = some (.int .i64 (er : Int)) ∧ (stW w X Y Z er a L).cell? ⟨F, 1, none⟩ = some (.int .i64 (a : Int)) := by
  have hb : Blk (stW w X Y Z er a L) F #[.int .i64 (er : Int), .int .i64 (a : Int)] 65 := by
    unfold stW
    split
    · exact (set3_other (Ne.symm hX) (Ne.symm hY) (Ne.symm hZ) _ _ _).trans h
    · split
      · exact (Below.heap_setCell _ _ _ F (Ne.symm hY)).trans ((setRow_other _ _ _ _ (Ne.symm hX)).trans h)
      · split
        · exact (setRow_other _ _ _ _ (Ne.symm hX)).trans h
        · exact h
  exact ⟨hb.at' 0, hb.at' 1⟩
abbrev fltM (er a : Nat) (b : Bool) : PanicEntry := { v := .iface 65 (.agg #[.int .i64 (er : Int), .int .i64 (a : Int)]), recovered := b }
/-- The world behind the closure, where it has met a fault. -/
abbrev ctW (w : World) (X Y Z er a : Nat) : World := set3 (w.alloc (.cells #[.int .i64 (er : Int), .int .i64 (a : Int)] 65)).drew X Y Z (exC ndZ (.slice none 0 0)) (a : Int) (er : Int)
abbrev ctI (w : World) : World := w.alloc (.cells #[.int .i64 0, .int .i64 0] 65)
set_option maxHeartbeats 4000000 in
set_option maxRecDepth 100000 in
theorem catch_fault (X Y Z er a : Nat) (cs : Array Value) (hcs : cs.size = 14) (a0 e0 : Int) (w : World) (hR : Res3 w X Y Z cs a0 e0) (hXY : X ≠ Y) (hXZ : X ≠ Z) (hYZ : Y ≠ Z) :
    CallsD Tryz.prog 28 #[.pointer (some ⟨X, 0, none⟩), .pointer (some ⟨Y, 0, none⟩), .pointer (some ⟨Z, 0, none⟩)] (.panicking [fltM er a false]) w fun e u' w' =>
      e = .returned (.tuple #[]) ∧ u' = .panicking [fltM er a true] ∧ w' = ctW w X Y Z er a := by
  refine callsD_of_wpS Tryz.func28 rfl fun c₀ cs0 hu => ?_
  apply wpS_seq
  refine wpS_recover (r := (.iface 65 (.agg #[.int .i64 (er : Int), .int .i64 (a : Int)]), { c₀ with mode := .panicking [fltM er a true] } :: cs0)) rfl rfl (by simp [recoverD, hu]) ?_
  have h1 := as_yes (.agg #[.int .i64 (er : Int), .int .i64 (a : Int)])
  show wpList _ _ _ _ { tmps := #[.pointer (some ⟨X, 0, none⟩), .pointer (some ⟨Y, 0, none⟩), .pointer (some ⟨Z, 0, none⟩), undef, undef, undef, .iface 65 (.agg #[.int .i64 (er : Int), .int .i64 (a : Int)]), undef, undef, undef, undef, undef, undef, undef, undef, undef], defers := [] } w
  go_wp2_with fail
  refine wpS_of_wp ?_
  obtain ⟨w1, hw1⟩ : ∃ w1, w.alloc (.cells #[.int .i64 (er : Int), .int .i64 (a : Int)] 65) = w1 := ⟨_, rfl⟩
  have hF : Blk w1 w.heap.size #[.int .i64 (er : Int), .int .i64 (a : Int)] 65 := by rw [← hw1]; exact Blk.new w _ _
  have R1 : Res3 w1 X Y Z cs a0 e0 := by rw [← hw1]; exact hR.keep (step (Below.refl _ _) _)
  rw [show ctW w X Y Z er a = set3 w1.drew X Y Z (exC ndZ (.slice none 0 0)) (a : Int) (er : Int) by rw [← hw1]]
  rw [hw1]
  have hF2 : Blk w1.drew w.heap.size #[.int .i64 (er : Int), .int .i64 (a : Int)] 65 := hF
  have R2 : Res3 w1.drew X Y Z cs a0 e0 := ⟨R1.t, R1.a, R1.e⟩
  have cY : (w1.drew.setRow X (exC ndZ (.slice none 0 0))).cell? ⟨Y, 0, none⟩ = some (.int .i64 a0) := Blk.at' (t := 3) ((setRow_other _ _ _ _ (Ne.symm hXY)).trans R2.a) 0
  have fY : (w1.drew.setRow X (exC ndZ (.slice none 0 0))).frozen? ⟨Y, 0, none⟩ = false := Blk.fr (t := 3) ((setRow_other _ _ _ _ (Ne.symm hXY)).trans R2.a) 0
  have bZ : Blk ((w1.drew.setRow X (exC ndZ (.slice none 0 0))).setCell ⟨Y, 0, none⟩ (.int .i64 (a : Int))) Z #[.int .i64 e0] 31 := (Below.heap_setCell _ _ _ Z (fun e => hYZ e.symm)).trans ((setRow_other _ _ _ _ (Ne.symm hXZ)).trans R2.e)
  have cZ := bZ.one
  have fZ := bZ.fr 0
  clear bZ R1 hF
  have hXF : X ≠ w.heap.size := fun e => by have := hR.t.lt; omega
  have hYF : Y ≠ w.heap.size := fun e => by have := hR.a.lt; omega
  have hZF : Z ≠ w.heap.size := fun e => by have := hR.e.lt; omega
  clear hw1 hR
  generalize w.heap.size = F at *
  go_wp2_with fail
  refine region_inv (fun (L : Nat → Bool) (a₁ : Act) (w₁ : World) => ∃ (x11 x12 x13 x14 x15 : Value), a₁ = ⟨#[.pointer (some ⟨X, 0, none⟩), .pointer (some ⟨Y, 0, none⟩), .pointer (some ⟨Z, 0, none⟩), .pointer (some ⟨F, 0, none⟩), .bool true, .tuple #[.agg #[.int .i64 (er : Int), .int .i64 (a : Int)], .bool true], .iface 65 (.agg #[.int .i64 (er : Int), .int .i64 (a : Int)]), .tuple #[.agg #[.int .i64 (er : Int), .int .i64 (a : Int)], .bool true], .agg #[.int .i64 (er : Int), .int .i64 (a : Int)], .bool true, .bool true, x11, x12, x13, x14, x15], []⟩ ∧ w₁ = stW w1.drew X Y Z er a L ∧ (L 6 = true → L 5 = true) ∧ (L 7 = true → L 6 = true) ∧ (L 0 = true → x11 = exV ndZ (.slice none 0 0)) ∧ (L 1 = true → x12 = .pointer (some ⟨F, 1, none⟩)) ∧ (L 2 = true → x13 = .int .i64 (a : Int)) ∧ (L 3 = true → x14 = .pointer (some ⟨F, 0, none⟩)) ∧ (L 4 = true → x15 = .int .i64 (er : Int))) (by kernel_rfl) (by kernel_rfl) ?_ ?_ ?_
  · exact ⟨undef, undef, undef, undef, undef, rfl, rfl, fun h => absurd h (by decide), fun h => absurd h (by decide), fun h => absurd h (by decide), fun h => absurd h (by decide), fun h => absurd h (by decide), fun h => absurd h (by decide), fun h => absurd h (by decide)⟩
  · intro i hi L a₁ w₁ hI hLi hdep
    obtain ⟨x11, x12, x13, x14, x15, ha, hw₁, h65, h76, g0, g1, g2, g3, g4⟩ := hI
    subst ha
    subst hw₁
    have c0 := (ld_st (w := w1.drew) (X := X) (Y := Y) (Z := Z) (er := er) (a := a) L hF2 hXF hYF hZF).1
    have c1 := (ld_st (w := w1.drew) (X := X) (Y := Y) (Z := Z) (er := er) (a := a) L hF2 hXF hYF hZF).2
    have hcases : i = 0 ∨ i = 1 ∨ i = 2 ∨ i = 3 ∨ i = 4 ∨ i = 5 ∨ i = 6 ∨ i = 7 := (show ∀ i, i < 8 → (i = 0 ∨ i = 1 ∨ i = 2 ∨ i = 3 ∨ i = 4 ∨ i = 5 ∨ i = 6 ∨ i = 7) by decide +kernel) i hi
    clear hi
    rcases hcases with rfl | rfl | rfl | rfl | rfl | rfl | rfl | rfl
    · refine wpOp_step rfl (fun K' hKK => ?_)
      go_simp
      refine hKK _ _ ⟨_, _, _, _, _, rfl, (st_same (by decide) (by decide) (by decide)), fun h => lk9b (h65 (lk9 h (by decide))), fun h => lk9b (h76 (lk9 h (by decide))), (fun _ => rfl), (fun h => g1 (lk9 h (by decide))), (fun h => g2 (lk9 h (by decide))), (fun h => g3 (lk9 h (by decide))), (fun h => g4 (lk9 h (by decide)))⟩
    · refine wpOp_step rfl (fun K' hKK => ?_)
      go_simp
      refine hKK _ _ ⟨_, _, _, _, _, rfl, (st_same (by decide) (by decide) (by decide)), fun h => lk9b (h65 (lk9 h (by decide))), fun h => lk9b (h76 (lk9 h (by decide))), (fun h => g0 (lk9 h (by decide))), (fun _ => rfl), (fun h => g2 (lk9 h (by decide))), (fun h => g3 (lk9 h (by decide))), (fun h => g4 (lk9 h (by decide)))⟩
    · have l1 : L 1 = true := hdep _ rfl ⟨1, .data⟩ (by simp) (by rfl)
      obtain rfl := g1 l1
      refine wpOp_step rfl (fun K' hKK => ?_)
      go_simp
      refine hKK _ _ ⟨_, _, _, _, _, rfl, (st_same (by decide) (by decide) (by decide)), fun h => lk9b (h65 (lk9 h (by decide))), fun h => lk9b (h76 (lk9 h (by decide))), (fun h => g0 (lk9 h (by decide))), (fun h => g1 (lk9 h (by decide))), (fun _ => rfl), (fun h => g3 (lk9 h (by decide))), (fun h => g4 (lk9 h (by decide)))⟩
    · refine wpOp_step rfl (fun K' hKK => ?_)
      go_simp
      refine hKK _ _ ⟨_, _, _, _, _, rfl, (st_same (by decide) (by decide) (by decide)), fun h => lk9b (h65 (lk9 h (by decide))), fun h => lk9b (h76 (lk9 h (by decide))), (fun h => g0 (lk9 h (by decide))), (fun h => g1 (lk9 h (by decide))), (fun h => g2 (lk9 h (by decide))), (fun _ => rfl), (fun h => g4 (lk9 h (by decide)))⟩
    · have l3 : L 3 = true := hdep _ rfl ⟨3, .data⟩ (by simp) (by rfl)
      obtain rfl := g3 l3
      refine wpOp_step rfl (fun K' hKK => ?_)
      go_simp
      refine hKK _ _ ⟨_, _, _, _, _, rfl, (st_same (by decide) (by decide) (by decide)), fun h => lk9b (h65 (lk9 h (by decide))), fun h => lk9b (h76 (lk9 h (by decide))), (fun h => g0 (lk9 h (by decide))), (fun h => g1 (lk9 h (by decide))), (fun h => g2 (lk9 h (by decide))), (fun h => g3 (lk9 h (by decide))), (fun _ => rfl)⟩
    · have l0 : L 0 = true := hdep _ rfl ⟨0, .data⟩ (by simp) (by rfl)
      obtain rfl := g0 l0
      have n6 : L 6 = false := by cases q : L 6; rfl; exact absurd (h65 q) (by rw [hLi]; decide)
      have n7 : L 7 = false := by cases q : L 7; rfl; exact absurd (h76 q) (by rw [n6]; decide)
      have hW : stW w1.drew X Y Z er a L = w1.drew := by unfold stW; rw [if_neg (by rw [n7]; decide), if_neg (by rw [n6]; decide), if_neg (by rw [hLi]; decide)]
      rw [hW]
      refine wpOp_step rfl (fun K' hKK => ?_)
      split
      · refine wp_store_row 30 _ _ rfl X (exC ndZ (.slice none 0 0)) rfl rfl 30 _ R2.t (exC_info _ _) hcs (exC_one _ _ _ _) ?_
        refine hKK _ _ ⟨_, _, _, _, _, rfl, (by unfold stW; simp [n6, n7]), fun _ => rfl, fun h => lk9b (h76 (lk9 h (by decide))), (fun h => g0 (lk9 h (by decide))), (fun h => g1 (lk9 h (by decide))), (fun h => g2 (lk9 h (by decide))), (fun h => g3 (lk9 h (by decide))), (fun h => g4 (lk9 h (by decide)))⟩
      · rename_i hw
        exact absurd rfl hw
    · have l2 : L 2 = true := hdep _ rfl ⟨2, .data⟩ (by simp) (by rfl)
      have l5 : L 5 = true := hdep _ rfl ⟨5, .chain⟩ (by simp) (by rfl)
      obtain rfl := g2 l2
      have n7 : L 7 = false := by cases q : L 7; rfl; exact absurd (h76 q) (by rw [hLi]; decide)
      have hW : stW w1.drew X Y Z er a L = w1.drew.setRow X (exC ndZ (.slice none 0 0)) := by unfold stW; rw [if_neg (by rw [n7]; decide), if_neg (by rw [hLi]; decide), if_pos l5]
      rw [hW]
      refine wpOp_step rfl (fun K' hKK => ?_)
      go_simp
      refine hKK _ _ ⟨_, _, _, _, _, rfl, (by unfold stW; simp [n7]), fun _ => lk9b l5, fun _ => rfl, (fun h => g0 (lk9 h (by decide))), (fun h => g1 (lk9 h (by decide))), (fun h => g2 (lk9 h (by decide))), (fun h => g3 (lk9 h (by decide))), (fun h => g4 (lk9 h (by decide)))⟩
    · have l4 : L 4 = true := hdep _ rfl ⟨4, .data⟩ (by simp) (by rfl)
      have l6 : L 6 = true := hdep _ rfl ⟨6, .chain⟩ (by simp) (by rfl)
      obtain rfl := g4 l4
      have hW : stW w1.drew X Y Z er a L = (w1.drew.setRow X (exC ndZ (.slice none 0 0))).setCell ⟨Y, 0, none⟩ (.int .i64 (a : Int)) := by unfold stW; rw [if_neg (by rw [hLi]; decide), if_pos l6]
      rw [hW]
      refine wpOp_step rfl (fun K' hKK => ?_)
      go_simp
      refine hKK _ _ ⟨_, _, _, _, _, rfl, (by unfold stW; simp), fun h => lk9b (h65 (lk9 h (by decide))), fun _ => lk9b l6, (fun h => g0 (lk9 h (by decide))), (fun h => g1 (lk9 h (by decide))), (fun h => g2 (lk9 h (by decide))), (fun h => g3 (lk9 h (by decide))), (fun h => g4 (lk9 h (by decide)))⟩
  intro L a₁ w₁ hall hI
  obtain ⟨x11, x12, x13, x14, x15, ha, hw₁, h65, h76, g0, g1, g2, g3, g4⟩ := hI
  subst ha
  subst hw₁
  have hW : stW w1.drew X Y Z er a L = set3 w1.drew X Y Z (exC ndZ (.slice none 0 0)) (a : Int) (er : Int) := by unfold stW; rw [if_pos (hall 7 (by decide))]
  rw [hW]
  go_wp2_with fail
  show bodyPostS _ _ _ _ _ _ _ _ _
  refine ⟨rfl, .panicking [fltM er a true], rfl, .tuple #[], by simp [results, Tryz.results28], rfl, rfl, rfl⟩
set_option maxHeartbeats 4000000 in
set_option maxRecDepth 100000 in
theorem catch_idle (X Y Z : Nat) (w : World) :
    CallsD Tryz.prog 28 #[.pointer (some ⟨X, 0, none⟩), .pointer (some ⟨Y, 0, none⟩), .pointer (some ⟨Z, 0, none⟩)] .returning w fun e u' w' =>
      e = .returned (.tuple #[]) ∧ u' = .returning ∧ w' = ctI w := by
  refine callsD_of_wpS Tryz.func28 rfl fun c₀ cs0 hu => ?_
  apply wpS_seq
  refine wpS_recover (r := (.nilIface, c₀ :: cs0)) rfl rfl (by simp [recoverD, hu]) ?_
  have h1 := as_no
  show wpList _ _ _ _ { tmps := #[.pointer (some ⟨X, 0, none⟩), .pointer (some ⟨Y, 0, none⟩), .pointer (some ⟨Z, 0, none⟩), undef, undef, undef, .nilIface, undef, undef, undef, undef, undef, undef, undef, undef, undef], defers := [] } w
  go_wp2_with fail
  refine wpS_of_wp ?_
  go_wp2_with fail
  refine ⟨rfl, .returning, by rw [← hu], .tuple #[], by simp [results, Tryz.results28], rfl, rfl, rfl⟩
end Go.Proofs.YtdlomdbmmhjppaaGreatDoor.T9
namespace Go.Proofs.YtdlomdbmmhjppaaGreatDoor.T9
open Go.RowKit Go.Sort
set_option linter.unusedVariables false

/-- What Formula answers. -/
def ForP (w : World) (e : Ending) (w' : World) : PR → Prop
  | .bad er a => e = .returned (.tuple #[exV ndZ (.slice none 0 0), .int .i64 (a : Int), .int .i64 (er : Int)]) ∧ Below w.heap.size w w'
  | .ok t _ => ∃ (a : Option Addr) (len cap : Nat) (bs : List Nat), e = .returned (.tuple #[exV t.nd (.slice a len cap), .int .i64 0, .int .i64 0]) ∧ New w w' (exV t.nd (.slice a len cap)) t bs ∧ Below w.heap.size w w' ∧ SmE t
/-- The three results' blocks, new. -/
abbrev res0 (w : World) : World := ((w.alloc z14O).alloc (.cells #[.int .i64 0] 3)).alloc (.cells #[.int .i64 0] 31)
theorem res0_is (w : World) : Res3 (res0 w) w.heap.size (w.heap.size + 1) (w.heap.size + 1 + 1) z14 0 0 :=
  ⟨((Blk.new w z14 30).alloc _).alloc _, (Blk.new1 w z14O #[.int .i64 0] 3).alloc _, Blk.new2 w z14O (.cells #[.int .i64 0] 3) #[.int .i64 0] 31⟩
theorem res0_below (w : World) : Below w.heap.size w (res0 w) := step (step (step (Below.refl _ w) _) _) _
theorem res_three {w : World} {X Y Z : Nat} {nd : Nd} {a : Option Addr} {len cap : Nat} {x y : Int} (h : Res3 w X Y Z (exC nd (.slice a len cap)) x y) (tmps : Array Value) (h2 : tmps[2]? = some (.pointer (some ⟨X, 0, none⟩))) (h3 : tmps[3]? = some (.pointer (some ⟨Y, 0, none⟩))) (h4 : tmps[4]? = some (.pointer (some ⟨Z, 0, none⟩))) :
    (results Tryz.f11 tmps).run Tryz.prog w = .ok (.tuple #[exV nd (.slice a len cap), .int .i64 x, .int .i64 y]) w := by
  have h1 := run_blk h.t rfl
  have cy := h.a.one
  have cz := h.e.one
  have hy : (loadVar 3 ⟨Y, 0, none⟩).run Tryz.prog w = .ok (.int .i64 x) w := by simp [go_sem, cy]
  have hz : (loadVar 31 ⟨Z, 0, none⟩).run Tryz.prog w = .ok (.int .i64 y) w := by simp [go_sem, cz]
  simp [results, Tryz.results11, asAddr, h1, hy, hz, h2, h3, h4]
  try rfl
set_option maxHeartbeats 4000000 in
set_option maxRecDepth 100000 in
theorem formula_bad {s : ByteArray} {er a : Nat} (w : World) (HT : Calls Tryz.prog 29 #[.string s] (res0 w) fun e w' => e = .panicked (flt er a) ∧ Below (res0 w).heap.size (res0 w) w') : Calls Tryz.prog 11 #[.string s] w fun e w' => e = .returned (.tuple #[exV ndZ (.slice none 0 0), .int .i64 (a : Int), .int .i64 (er : Int)]) ∧ Below w.heap.size w w' := by
  have H := hide HT
  have hmf : ∀ (fn : Fn) (first cap : Array Value) (w : World), (Instr.makeFunc fn first cap).run Tryz.prog w = .ok (.func fn first cap) w := fun _ _ _ _ => rfl
  clear HT
  go_enter_defers Tryz.func11, Tryz.ntmps11
  go_wp2_with (go_at_call 29; refine H.out.mono ?_; rintro e w4 ⟨rfl, hb⟩; have R4 := hide ((res0_is w).keep hb); have B4 := hide (next (res0_below w) hb); clear hb)
  refine leaves_cons (f := 28) (args := #[.pointer (some ⟨w.heap.size, 0, none⟩), .pointer (some ⟨w.heap.size + 1, 0, none⟩), .pointer (some ⟨w.heap.size + 1 + 1, 0, none⟩)]) (by simp) (by simp [go_sem]) ?_
  refine (catch_fault w.heap.size (w.heap.size + 1) (w.heap.size + 1 + 1) er a z14 rfl 0 0 w4 R4.out (by omega) (by omega) (by omega)).mono ?_
  rintro e u' w'' ⟨rfl, rfl, rfl⟩
  show Leaves _ _ _ _ [] .returning _
  have R5 : Res3 (ctW w4 w.heap.size (w.heap.size + 1) (w.heap.size + 1 + 1) er a) w.heap.size (w.heap.size + 1) (w.heap.size + 1 + 1) (exC ndZ (.slice none 0 0)) (a : Int) (er : Int) := by
    have R6 := R4.out.keep (step (Below.refl _ _) (.cells #[.int .i64 (er : Int), .int .i64 (a : Int)] 65))
    exact Res3.put (w := (w4.alloc (.cells #[.int .i64 (er : Int), .int .i64 (a : Int)] 65)).drew) ⟨R6.t, R6.a, R6.e⟩ (by omega) (by omega) (by omega) (a : Int) (er : Int)
  refine ⟨_, res_three R5 _ rfl rfl rfl, rfl, ?_⟩
  exact below_set3 (step B4.out _).drew (Nat.le_refl _) (by omega) (by omega) _ _ _
set_option maxHeartbeats 4000000 in
set_option maxRecDepth 100000 in
theorem formula_ok {s : ByteArray} {t : Ex} {j : Nat} (w : World) (HT : Calls Tryz.prog 29 #[.string s] (res0 w) fun e w' => TRP (res0 w) e w' (.ok t j)) : Calls Tryz.prog 11 #[.string s] w fun e w' => ForP w e w' (.ok t j) := by
  have H := hide HT
  have hmf : ∀ (fn : Fn) (first cap : Array Value) (w : World), (Instr.makeFunc fn first cap).run Tryz.prog w = .ok (.func fn first cap) w := fun _ _ _ _ => rfl
  clear HT
  go_enter_defers Tryz.func11, Tryz.ntmps11
  go_wp2_with (go_at_call 29; refine H.out.mono ?_; rintro e w4 ⟨a, len, cap, bs, rfl, hN, hb, hsm⟩; have R4 := hide ((res0_is w).keep hb); have B4 := hide (next (res0_below w) hb); have hsn := run_putrow t.nd a len cap R4.out.t rfl; have R5 := hide (R4.out.put (cs' := exC t.nd (.slice a len cap)) (by omega) (by omega) (by omega) 0 0); have cY : (w4.setRow w.heap.size (exC t.nd (.slice a len cap))).cell? ⟨w.heap.size + 1, 0, none⟩ = some (.int .i64 0) := Blk.at' (t := 3) ((setRow_other _ _ _ _ (by omega)).trans R4.out.a) 0; have fY : (w4.setRow w.heap.size (exC t.nd (.slice a len cap))).frozen? ⟨w.heap.size + 1, 0, none⟩ = false := Blk.fr (t := 3) ((setRow_other _ _ _ _ (by omega)).trans R4.out.a) 0; have bZ : Blk ((w4.setRow w.heap.size (exC t.nd (.slice a len cap))).setCell ⟨w.heap.size + 1, 0, none⟩ (.int .i64 0)) (w.heap.size + 1 + 1) #[.int .i64 0] 31 := (Below.heap_setCell _ _ _ _ (fun e => by simp at e)).trans ((setRow_other _ _ _ _ (by omega)).trans R4.out.e); have cZ := bZ.one; have fZ := bZ.fr 0; clear bZ; replace hN := hide hN; replace hsm := hide hsm; clear hb)
  refine leaves_cons (f := 28) (args := #[.pointer (some ⟨w.heap.size, 0, none⟩), .pointer (some ⟨w.heap.size + 1, 0, none⟩), .pointer (some ⟨w.heap.size + 1 + 1, 0, none⟩)]) (by simp) (by simp [go_sem]) ?_
  refine (catch_idle w.heap.size (w.heap.size + 1) (w.heap.size + 1 + 1) _).mono ?_
  rintro e u' w'' ⟨rfl, rfl, rfl⟩
  show Leaves _ _ _ _ [] .returning _
  refine ⟨_, res_three (R5.out.keep (step (Below.refl _ _) _)) _ rfl rfl rfl, a, len, cap, bs, rfl, ?_, ?_, hsm.out⟩
  · have hs : (res0 w).heap.size = w.heap.size + 1 + 1 + 1 := by simp
    have hz : (set3 w4 w.heap.size (w.heap.size + 1) (w.heap.size + 1 + 1) (exC t.nd (.slice a len cap)) 0 0).heap.size = w4.heap.size := by simp
    have hk : ∀ k ∈ bs, w.heap.size + 1 + 1 + 1 ≤ k ∧ k < w4.heap.size := fun k hk => by have := hN.out.at' k hk; omega
    refine ⟨hN.out.ow.move t (fun k hb => (Below.heap_alloc _ _ k (by rw [hz]; exact (hk k hb).2)).trans (set3_other (by have := hk k hb; omega) (by have := hk k hb; omega) (by have := hk k hb; omega) _ _ _)), hN.out.nd, fun k hb => ⟨by have := hk k hb; omega, ?_⟩⟩
    have h8 := (hk k hb).2
    show k < (World.alloc _ _).heap.size
    rw [World.size_alloc, hz]
    omega
  · exact step (below_set3 B4.out (Nat.le_refl _) (by omega) (by omega) _ _ _) _
/-- Formula reads what may be, and tells the first fault. -/
theorem parse_any (s : ByteArray) (hmax : s.size ≤ maxLen) (w : World) (hl : Lay8 w) : Calls Tryz.prog 11 #[.string s] w fun e w' => ForP w e w' (parR s) := by
  have HT := treeOf_any s hmax (res0 w) (hl.keep (res0_below w))
  cases h : parR s with
  | bad er a =>
    rw [h] at HT
    exact formula_bad w HT
  | ok t j =>
    rw [h] at HT
    exact formula_ok w HT
end Go.Proofs.YtdlomdbmmhjppaaGreatDoor.T9
