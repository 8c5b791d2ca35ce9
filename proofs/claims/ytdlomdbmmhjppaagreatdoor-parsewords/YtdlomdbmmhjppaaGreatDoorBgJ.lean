/- quadrillelaw10.begun: what its five formulas come to. quadrillelaw10.begun: its drawn statement, that builds the tree of -2^x; what every order keeps. quadrillelaw10.begun: what every statement of layer 10 asks ahead. -/
import Derived.Test.YtdlomdbmmhjppaaGreatDoorFlJ
import Derived.KernelRfl
import Derived.Test.YtdlomdbmmhjppaaGreatDoorQtJ
import Derived.Test.YtdlomdbmmhjppaaGreatDoorCoJ
import Derived.Great.BuildSlice
import Derived.Test.YtdlomdbmmhjppaaGreatDoorEq12
namespace Go.Proofs.YtdlomdbmmhjppaaGreatDoor.T9
open Go.RowKit Go.Sort
set_option linter.unusedVariables false

abbrev q1 : ByteArray := ba [61, 45, 50, 94, 120, 49]
abbrev q2 : ByteArray := ba [61, 115, 117, 109, 40, 66, 50, 58, 36, 65, 36, 49, 44, 32, 97, 97, 97, 49, 41]
abbrev q3 : ByteArray := ba [61, 49, 43]
abbrev q4 : ByteArray := ba [49]
abbrev q5 : ByteArray := ba [61, 78, 79, 80, 69, 40]

theorem p3 : parR q3 = .bad 20 3 := by kernel_rfl
theorem p4 : parR q4 = .bad 1 0 := by kernel_rfl
theorem p5 : parR q5 = .bad 3 1 := by kernel_rfl
theorem p1 : parR q1 = .ok (binX 1 (unX 1 (leafX 1 2 no10)) (.mk ⟨5, 0, 0, no10, ⟨0, 23, false, false⟩, rf0, 0⟩ [])) 0 := by kernel_rfl
theorem p2 : parR q2 = .ok (callX 54 [.mk ⟨6, 0, 0, no10, ⟨1, 1, false, false⟩, ⟨0, 0, true, true⟩, 0⟩ [], leafX 4 3 no10]) 0 := by kernel_rfl
end Go.Proofs.YtdlomdbmmhjppaaGreatDoor.T9
namespace Go.Proofs.YtdlomdbmmhjppaaGreatDoor.T9
open Go.RowKit Go.Sort
set_option linter.unusedVariables false

abbrev z14b : Array Value := #[.int .i64 0, .int .i64 0, .int .i64 0, .string { data := #[] }, .int .i64 0, .int .i64 0, .bool false, .bool false, .int .i64 0, .int .i64 0, .bool false, .bool false, .int .i64 0, .slice none 0 0]
abbrev z14Ob : Obj := .cells z14b 30
abbrev nd1 (n : Int) : Nd := ⟨1, 0, n, no, ⟨0, 0, false, false⟩, ⟨0, 0, false, false⟩, 0⟩
theorem built2 (n m : Nd) (s r : Value) : Tryz.prog.builtSlice 30 2 [(0, exV n s), (1, exV m r)] = some (exC n s ++ exC m r) := by kernel_rfl
theorem Blk.row2 {w : World} {B : Nat} {n m : Nd} {s r : Value} {t : TypeId} (h : Blk w B (exC n s ++ exC m r) t) : w.rangeAt B 0 (exC n s).toList ∧ w.rangeAt B (0 + 14) (exC m r).toList := by
  refine ⟨fun j v hv => ?_, fun j v hv => ?_⟩
  · have hj : j < 14 := by have := (List.getElem?_eq_some_iff.1 hv).1; rwa [exC_len] at this
    rw [h.at' (0 + j), Nat.zero_add, Array.getElem?_append_left (by rw [exC_size]; exact hj)]
    rw [← hv, Array.getElem?_toList]
  · have hj : j < 14 := by have := (List.getElem?_eq_some_iff.1 hv).1; rwa [exC_len] at this
    rw [h.at' (0 + 14 + j), Array.getElem?_append_right (by rw [exC_size]; omega), exC_size, show 0 + 14 + j - 14 = j by omega]
    rw [← hv, Array.getElem?_toList]
theorem no_t {x y : Bool} (h : x = true → y = true) (hy : y = false) : x = false := by cases x; rfl; exact absurd (h rfl) (by rw [hy]; decide)
/-- The block of the pointer. -/
def pU : Value → Option Nat
  | .pointer (some ⟨U, _, _⟩) => some U
  | _ => none
theorem one_any (n : Int) (w : World) : Calls Tryz.prog 27 #[.int .i64 n] w fun e w' => e = .returned (exV (nd1 n) (.slice none 0 0)) ∧ Below w.heap.size w w' := by
  go_enter Tryz.func27, Tryz.ntmps27
  go_wp2_with fail
  refine bodyPost_ret (v := exV (nd1 n) (.slice none 0 0)) (by simp [results, Tryz.results27, go_sem]; try rfl) rfl ?_
  exact ⟨rfl, by go_grown⟩
theorem wp_buildTo {P : Program} {o : Oper} {a : Act} {w : World} {K : Act → World → Prop} {Q : Exit → Act → World → Prop} (t e : TypeId) (len : Nat) (parts : Array (Nat × Operand)) (ho : o.op = .buildSlice t len parts) (hu : P.underlying t = some (.slice e)) (cells : Array Value)
    (hf : P.builtSlice e len (parts.map fun (i, x) => (i, a.eval x)).toList = some cells) (h : K (a.put o.dst (.slice (some ⟨w.heap.size, 0, none⟩) len len)) (w.alloc (.cells cells e))) : o.wp P a w K Q := by
  unfold Program.builtSlice at hf
  cases hie : P.info? e with
  | none => simp [hie] at hf
  | some ie =>
    simp only [hie] at hf
    cases hz : ie.zero with
    | none => simp [hz] at hf
    | some z =>
      simp only [hz] at hf
      by_cases hc : len * ie.size > 2 ^ 24 ∨ len * ie.size = 0
      · simp [hc] at hf
      · rw [if_neg hc] at hf
        exact Go.wp_buildSlice t e len parts ho cells ie z hu hie hz (fun h' => hc (Or.inl h')) (fun h' => hc (Or.inr h')) hf h
abbrev nU1 : Nd := ⟨7, 1, 0, no10, rf0, rf0, 0⟩
abbrev nB1 : Nd := ⟨8, 1, 0, no10, rf0, rf0, 0⟩
abbrev nR1 : Nd := ⟨5, 0, 0, no10, ⟨0, 23, false, false⟩, rf0, 0⟩
abbrev e0 : Value := .slice none 0 0

/-- What every order keeps. -/
structure BgI (w0 w' : World) (L : Nat → Bool) (x17 x46 x47 x48 x49 x50 x51 : Value) : Prop where
  bel : Below w0.heap.size w0 w'
  g0 : L 0 = true → x46 = exV (nd1 2) e0
  g1 : L 1 = true → ∃ A, x47 = .slice (some ⟨A, 0, none⟩) 1 1 ∧ w0.heap.size ≤ A ∧ A < w'.heap.size ∧ Blk w' A (exC (nd1 2) e0) 30 ∧ (L 6 = true → pU x17 ≠ some A)
  g2 : L 2 = true → L 1 = true ∧ x48 = exV nU1 x47
  g3 : L 3 = true → x49 = exV nR1 e0
  g4 : L 4 = true → L 1 = true ∧ ∃ B, x50 = .slice (some ⟨B, 0, none⟩) 2 2 ∧ w0.heap.size ≤ B ∧ B < w'.heap.size ∧ Blk w' B (exC nU1 x47 ++ exC nR1 e0) 30 ∧ (L 6 = true → pU x17 ≠ some B)
  g5 : L 5 = true → L 4 = true ∧ x51 = exV nB1 x50
  g6 : L 6 = true → ∃ U, x17 = .pointer (some ⟨U, 0, none⟩) ∧ w0.heap.size ≤ U ∧ U < w'.heap.size ∧ (L 7 = false → Blk w' U z14b 30)
  g7 : L 7 = true → L 5 = true ∧ L 6 = true ∧ ∀ U cs, x17 = .pointer (some ⟨U, 0, none⟩) → x51 = .agg cs → Blk w' U cs 30
set_option maxHeartbeats 8000000 in
set_option maxRecDepth 100000 in
theorem bg_reg (w0 : World) (X16 : Nat) (hX : Blk w0 X16 (exC nR1 e0) 30) (y0 y1 y2 y3 y4 y5 y6 y7 y8 y9 y10 y11 y12 y13 y14 y15 y18 y19 y20 y21 y22 y23 y24 y25 y26 y27 y28 y29 y30 y31 y32 y33 y34 y35 y36 y37 y38 y39 y40 y41 y42 y43 y44 y45 y52 y53 y54 y55 y56 y57 y58 y59 y60 y61 y62 y63 y64 y65 y66 y67 y68 y69 y70 y71 y72 y73 y74 y75 y76 y77 y78 y79 y80 y81 y82 y83 y84 y85 y86 y87 y88 y89 y90 y91 y92 y93 y94 y95 y96 y97 : Value) (Q : Exit → Act → World → Prop)
    (hQ : ∀ wx (x46 x47 x48 x49 x50 x51 : Value) (U B : Nat), Below w0.heap.size w0 wx → Blk wx U (exC nB1 (.slice (some ⟨B, 0, none⟩) 2 2)) 30 → Tree wx (exV nB1 (.slice (some ⟨B, 0, none⟩) 2 2)) (binX 1 (unX 1 (leafX 1 2 no10)) (.mk nR1 [])) → Q .normal ⟨#[y0, y1, y2, y3, y4, y5, y6, y7, y8, y9, y10, y11, y12, y13, y14, y15, .pointer (some ⟨X16, 0, none⟩), .pointer (some ⟨U, 0, none⟩), y18, y19, y20, y21, y22, y23, y24, y25, y26, y27, y28, y29, y30, y31, y32, y33, y34, y35, y36, y37, y38, y39, y40, y41, y42, y43, y44, y45, x46, x47, x48, x49, x50, x51, y52, y53, y54, y55, y56, y57, y58, y59, y60, y61, y62, y63, y64, y65, y66, y67, y68, y69, y70, y71, y72, y73, y74, y75, y76, y77, y78, y79, y80, y81, y82, y83, y84, y85, y86, y87, y88, y89, y90, y91, y92, y93, y94, y95, y96, y97], []⟩ wx) :
    Code.wp Tryz.prog (.region 7 #[{ dst := some 46, op := Op.call { callee := Callee.value (Operand.func 27), args := #[Operand.const (Value.int IntKind.i64 2)], argTypes := #[2] }, type := 30, pos := "law.go:25", after := #[], guard := none }, { dst := some 47, op := Op.buildSlice 28 1 #[(0, Operand.tmp 46)], type := 28, pos := "law.go:25", after := #[{ on := 0, ground := Ground.data }], guard := none }, { dst := some 48, op := Op.build 30 #[(0, Operand.const (Value.int IntKind.i64 7)), (1, Operand.const (Value.int IntKind.i64 1)), (7, Operand.tmp 47)], type := 30, pos := "law.go:25", after := #[{ on := 1, ground := Ground.data }], guard := none }, { dst := some 49, op := Op.load 30 (Operand.tmp 16), type := 30, pos := "law.go:25", after := #[], guard := none }, { dst := some 50, op := Op.buildSlice 28 2 #[(0, Operand.tmp 48), (1, Operand.tmp 49)], type := 28, pos := "law.go:25", after := #[{ on := 2, ground := Ground.data }, { on := 3, ground := Ground.data }], guard := none }, { dst := some 51, op := Op.build 30 #[(0, Operand.const (Value.int IntKind.i64 8)), (1, Operand.const (Value.int IntKind.i64 1)), (7, Operand.tmp 50)], type := 30, pos := "law.go:25", after := #[{ on := 4, ground := Ground.data }], guard := none }, { dst := some 17, op := Op.alloc 30, type := 0, pos := "law.go:25", after := #[], guard := none }, { dst := none, op := Op.store 30 (Operand.tmp 17) (Operand.tmp 51), type := 0, pos := "law.go:25", after := #[{ on := 6, ground := Ground.data }, { on := 5, ground := Ground.data }, { on := 0, ground := Ground.chain }, { on := 0, ground := Ground.phase }, { on := 1, ground := Ground.phase }, { on := 2, ground := Ground.phase }, { on := 3, ground := Ground.phase }, { on := 4, ground := Ground.phase }, { on := 5, ground := Ground.phase }, { on := 6, ground := Ground.phase }], guard := none }] true) Q ⟨#[y0, y1, y2, y3, y4, y5, y6, y7, y8, y9, y10, y11, y12, y13, y14, y15, .pointer (some ⟨X16, 0, none⟩), undef, y18, y19, y20, y21, y22, y23, y24, y25, y26, y27, y28, y29, y30, y31, y32, y33, y34, y35, y36, y37, y38, y39, y40, y41, y42, y43, y44, y45, undef, undef, undef, undef, undef, undef, y52, y53, y54, y55, y56, y57, y58, y59, y60, y61, y62, y63, y64, y65, y66, y67, y68, y69, y70, y71, y72, y73, y74, y75, y76, y77, y78, y79, y80, y81, y82, y83, y84, y85, y86, y87, y88, y89, y90, y91, y92, y93, y94, y95, y96, y97], []⟩ w0 := by
  replace hQ := hide hQ
  refine region_inv (fun (L : Nat → Bool) (a₁ : Act) (w₁ : World) => ∃ (x17 x46 x47 x48 x49 x50 x51 : Value), a₁ = ⟨#[y0, y1, y2, y3, y4, y5, y6, y7, y8, y9, y10, y11, y12, y13, y14, y15, .pointer (some ⟨X16, 0, none⟩), x17, y18, y19, y20, y21, y22, y23, y24, y25, y26, y27, y28, y29, y30, y31, y32, y33, y34, y35, y36, y37, y38, y39, y40, y41, y42, y43, y44, y45, x46, x47, x48, x49, x50, x51, y52, y53, y54, y55, y56, y57, y58, y59, y60, y61, y62, y63, y64, y65, y66, y67, y68, y69, y70, y71, y72, y73, y74, y75, y76, y77, y78, y79, y80, y81, y82, y83, y84, y85, y86, y87, y88, y89, y90, y91, y92, y93, y94, y95, y96, y97], []⟩ ∧ BgI w0 w₁ L x17 x46 x47 x48 x49 x50 x51) (by kernel_rfl) (by kernel_rfl) ?_ ?_ ?_
  · exact ⟨undef, undef, undef, undef, undef, undef, undef, rfl, ⟨(Below.refl _ _).drew, fun q => absurd q (by decide), fun q => absurd q (by decide), fun q => absurd q (by decide), fun q => absurd q (by decide), fun q => absurd q (by decide), fun q => absurd q (by decide), fun q => absurd q (by decide), fun q => absurd q (by decide)⟩⟩
  · intro ix hi L a₁ w₁ hI hLi hdep
    obtain ⟨x17, x46, x47, x48, x49, x50, x51, ha, h⟩ := hI
    subst ha
    have hcases : ix = 0 ∨ ix = 1 ∨ ix = 2 ∨ ix = 3 ∨ ix = 4 ∨ ix = 5 ∨ ix = 6 ∨ ix = 7 := (show ∀ ix, ix < 8 → (ix = 0 ∨ ix = 1 ∨ ix = 2 ∨ ix = 3 ∨ ix = 4 ∨ ix = 5 ∨ ix = 6 ∨ ix = 7) by decide +kernel) ix hi
    clear hi
    rcases hcases with rfl | rfl | rfl | rfl | rfl | rfl | rfl | rfl
    · refine wpOp_step rfl (fun K' hKK => ?_)
      replace hKK := hide hKK
      go_simp
      go_wp2_with (refine (one_any 2 _).mono ?_; rintro e w5 ⟨rfl, hb5⟩)
      refine hKK.out _ _ ?_
      exact ⟨_, _, _, _, _, _, _, rfl, ⟨next h.bel hb5, fun _ => rfl, fun q => by obtain ⟨A, e, h1, h2, h3, h4⟩ := h.g1 q; exact ⟨A, e, h1, Nat.lt_of_lt_of_le h2 hb5.size, h3.keep hb5, h4⟩, h.g2, h.g3, fun q => by obtain ⟨l1, B, e, h1, h2, h3, h4⟩ := h.g4 q; exact ⟨l1, B, e, h1, Nat.lt_of_lt_of_le h2 hb5.size, h3.keep hb5, h4⟩, h.g5, fun q => by obtain ⟨U, e, h1, h2, h3⟩ := h.g6 q; exact ⟨U, e, h1, Nat.lt_of_lt_of_le h2 hb5.size, fun q7 => (h3 q7).keep hb5⟩, fun q => by obtain ⟨l5, l6, h7⟩ := h.g7 q; exact ⟨l5, l6, fun U cs e1 e2 => (h7 U cs e1 e2).keep hb5⟩⟩⟩
    · have l0 : L 0 = true := hdep _ rfl ⟨0, .data⟩ (by simp) (by rfl)
      obtain rfl := h.g0 l0
      have n2 : L 2 = false := no_t (fun q => (h.g2 q).1) hLi
      have n4 : L 4 = false := no_t (fun q => (h.g4 q).1) hLi
      have n5 : L 5 = false := no_t (fun q => (h.g5 q).1) n4
      have n7 : L 7 = false := no_t (fun q => (h.g7 q).1) n5
      refine wpOp_step rfl (fun K' hKK => ?_)
      replace hKK := hide hKK
      split
      · refine wp_buildTo 28 30 1 _ rfl Tryz.underlying28 (exC (nd1 2) e0) (by rw [Array.toList_map]; exact built1 _ _) ?_
        exact hKK.out _ _ ⟨_, _, _, _, _, _, _, rfl, ⟨step h.bel _, h.g0, fun _ => ⟨_, rfl, h.bel.size, by simp, Blk.new _ _ _, fun q6 => by obtain ⟨U, e, h1, h2, h3⟩ := h.g6 q6; subst e; intro e; have := Option.some.inj e; omega⟩, fun q => absurd (show L 2 = true from q) (by rw [n2]; decide), h.g3, fun q => absurd (show L 4 = true from q) (by rw [n4]; decide), fun q => absurd (show L 5 = true from q) (by rw [n5]; decide), fun q => by obtain ⟨U, e, h1, h2, h3⟩ := h.g6 q; exact ⟨U, e, h1, Nat.lt_of_lt_of_le h2 (by simp), fun q7 => (h3 q7).alloc _⟩, fun q => absurd (show L 7 = true from q) (by rw [n7]; decide)⟩⟩
      · rename_i hw
        exact absurd rfl hw
    · have l1 : L 1 = true := hdep _ rfl ⟨1, .data⟩ (by simp) (by rfl)
      obtain ⟨A, rfl, hA1, hA2, hA3, hA4⟩ := h.g1 l1
      refine wpOp_step rfl (fun K' hKK => ?_)
      replace hKK := hide hKK
      go_simp
      refine hKK.out _ _ ?_
      exact ⟨_, _, _, _, _, _, _, rfl, ⟨h.bel, h.g0, h.g1, fun _ => ⟨l1, rfl⟩, h.g3, h.g4, h.g5, h.g6, h.g7⟩⟩
    · have hX3 := hX.keep h.bel
      refine wpOp_step rfl (fun K' hKK => ?_)
      replace hKK := hide hKK
      split
      · refine wp_load_row 30 (.tmp 16) rfl X16 rfl 30 (exC nR1 e0) (0, 0) _ hX3 Tryz.underlying30 rfl (exC_info _ _) ?_
        exact hKK.out _ _ ⟨_, _, _, _, _, _, _, rfl, ⟨h.bel, h.g0, h.g1, h.g2, fun _ => rfl, h.g4, h.g5, h.g6, h.g7⟩⟩
      · rename_i hw
        exact absurd rfl hw
    · have l2 : L 2 = true := hdep _ rfl ⟨2, .data⟩ (by simp) (by rfl)
      have l3 : L 3 = true := hdep _ rfl ⟨3, .data⟩ (by simp) (by rfl)
      obtain ⟨l1, rfl⟩ := h.g2 l2
      obtain rfl := h.g3 l3
      have n5 : L 5 = false := no_t (fun q => (h.g5 q).1) hLi
      have n7 : L 7 = false := no_t (fun q => (h.g7 q).1) n5
      refine wpOp_step rfl (fun K' hKK => ?_)
      replace hKK := hide hKK
      split
      · refine wp_buildTo 28 30 2 _ rfl Tryz.underlying28 (exC nU1 x47 ++ exC nR1 e0) (by rw [Array.toList_map]; exact built2 _ _ _ _) ?_
        exact hKK.out _ _ ⟨_, _, _, _, _, _, _, rfl, ⟨step h.bel _, h.g0, fun q => by obtain ⟨A, e, h1, h2, h3, h4⟩ := h.g1 q; exact ⟨A, e, h1, Nat.lt_of_lt_of_le h2 (by simp), h3.alloc _, h4⟩, h.g2, h.g3, fun _ => ⟨l1, _, rfl, h.bel.size, by simp, Blk.new _ _ _, fun q6 => by obtain ⟨U, e, h1, h2, h3⟩ := h.g6 q6; subst e; intro e; have := Option.some.inj e; omega⟩, fun q => absurd (show L 5 = true from q) (by rw [n5]; decide), fun q => by obtain ⟨U, e, h1, h2, h3⟩ := h.g6 q; exact ⟨U, e, h1, Nat.lt_of_lt_of_le h2 (by simp), fun q7 => (h3 q7).alloc _⟩, fun q => absurd (show L 7 = true from q) (by rw [n7]; decide)⟩⟩
      · rename_i hw
        exact absurd rfl hw
    · have l4 : L 4 = true := hdep _ rfl ⟨4, .data⟩ (by simp) (by rfl)
      obtain ⟨l1, B, rfl, hB1, hB2, hB3, hB4⟩ := h.g4 l4
      have n7 : L 7 = false := no_t (fun q => (h.g7 q).1) hLi
      refine wpOp_step rfl (fun K' hKK => ?_)
      replace hKK := hide hKK
      go_simp
      refine hKK.out _ _ ?_
      exact ⟨_, _, _, _, _, _, _, rfl, ⟨h.bel, h.g0, h.g1, h.g2, h.g3, h.g4, fun _ => ⟨l4, rfl⟩, h.g6, fun q => absurd (show L 7 = true from q) (by rw [n7]; decide)⟩⟩
    · have n7 : L 7 = false := no_t (fun q => (h.g7 q).2.1) hLi
      refine wpOp_step rfl (fun K' hKK => ?_)
      replace hKK := hide hKK
      go_simp
      refine hKK.out _ _ ?_
      exact ⟨_, _, _, _, _, _, _, rfl, ⟨step h.bel _, h.g0, fun q => by obtain ⟨A, e, h1, h2, h3, h4⟩ := h.g1 q; exact ⟨A, e, h1, Nat.lt_of_lt_of_le h2 (by simp), h3.alloc _, fun _ e6 => by have := Option.some.inj e6; omega⟩, h.g2, h.g3, fun q => by obtain ⟨l1, B, e, h1, h2, h3, h4⟩ := h.g4 q; exact ⟨l1, B, e, h1, Nat.lt_of_lt_of_le h2 (by simp), h3.alloc _, fun _ e6 => by have := Option.some.inj e6; omega⟩, h.g5, fun _ => ⟨_, rfl, h.bel.size, by simp, fun _ => Blk.new _ _ _⟩, fun q => absurd (show L 7 = true from q) (by rw [n7]; decide)⟩⟩
    · have l6 : L 6 = true := hdep _ rfl ⟨6, .data⟩ (by simp) (by rfl)
      have l5 : L 5 = true := hdep _ rfl ⟨5, .data⟩ (by simp) (by rfl)
      obtain ⟨l4, rfl⟩ := h.g5 l5
      obtain ⟨l1', B', e50, hB1', hB2', hB3', hB4'⟩ := h.g4 l4
      subst e50
      obtain ⟨U, rfl, hU1, hU2, hU3⟩ := h.g6 l6
      refine wpOp_step rfl (fun K' hKK => ?_)
      replace hKK := hide hKK
      split
      · refine wp_store_row 30 _ _ rfl U (exC nB1 (.slice (some ⟨B', 0, none⟩) 2 2)) rfl rfl 30 _ (hU3 hLi) (exC_info _ _) rfl (exC_one _ _ _ _) ?_
        exact hKK.out _ _ ⟨_, _, _, _, _, _, _, rfl, ⟨below_setRow h.bel hU1 _, h.g0, fun q => by obtain ⟨A, e, h1, h2, h3, h4⟩ := h.g1 q; exact ⟨A, e, h1, by rw [size_setRow]; exact h2, (setRow_other _ _ _ _ (fun e => h4 l6 (by rw [e]; rfl))).trans h3, h4⟩, h.g2, h.g3, fun q => by obtain ⟨l1, B, e, h1, h2, h3, h4⟩ := h.g4 q; exact ⟨l1, B, e, h1, by rw [size_setRow]; exact h2, (setRow_other _ _ _ _ (fun e => h4 l6 (by rw [e]; rfl))).trans h3, h4⟩, h.g5, fun _ => ⟨U, rfl, hU1, by rw [size_setRow]; exact hU2, fun q => absurd (show true = false from q) (by decide)⟩, fun _ => ⟨l5, l6, fun U' cs e1 e2 => by have e3 := (Addr.mk.inj (Option.some.inj (Value.pointer.inj e1))).1; subst e3; have e4 := Value.agg.inj e2; subst e4; exact Blk.setRow (hU3 hLi)⟩⟩⟩
      · rename_i hw
        exact absurd rfl hw
  intro L a₁ w₁ hall hI
  obtain ⟨x17, x46, x47, x48, x49, x50, x51, ha, h⟩ := hI
  subst ha
  have l (j : Nat) (hj : j < 8) : L j = true := hall j hj
  obtain ⟨A, rfl, hA1, hA2, hA3, _⟩ := h.g1 (l 1 (by decide))
  obtain ⟨_, B, rfl, hB1, hB2, hB3, _⟩ := h.g4 (l 4 (by decide))
  obtain ⟨_, rfl⟩ := h.g5 (l 5 (by decide))
  obtain ⟨U, rfl, hU1, hU2, _⟩ := h.g6 (l 6 (by decide))
  have hU := (h.g7 (l 7 (by decide))).2.2 U _ rfl rfl
  obtain ⟨r1, r2⟩ := hB3.row2
  refine hQ.out _ _ _ _ _ _ _ U B h.bel hU ?_
  unfold Tree In
  refine ⟨_, 2, 2, rfl, rfl, by omega, Nat.zero_le _, .inr ⟨B, 0, rfl, hB2, ?_⟩⟩
  unfold Kids
  refine ⟨⟨_, ?_, r1⟩, ?_⟩
  · unfold unX In
    refine ⟨_, 1, 1, rfl, rfl, by omega, Nat.zero_le _, .inr ⟨A, 0, rfl, hA2, ?_⟩⟩
    unfold Kids
    refine ⟨⟨_, leaf_in _ _ (nd1 2) (Nat.zero_le _), fun j v hv => ?_⟩, by unfold Kids; trivial⟩
    rw [hA3.at' (0 + j), Nat.zero_add, ← hv, Array.getElem?_toList]
  · unfold Kids
    exact ⟨⟨_, leaf_in _ _ nR1 (Nat.zero_le _), r2⟩, by unfold Kids; trivial⟩
end Go.Proofs.YtdlomdbmmhjppaaGreatDoor.T9
namespace Go.Proofs.YtdlomdbmmhjppaaGreatDoor.T9
open Go.RowKit Go.Sort
set_option linter.unusedVariables false

/-- What parse.Formula answers, the tree's own node apart. -/
def PaQ (w : World) (q er : Int) (T : World → Value → Prop) (e : Ending) (w' : World) : Prop := ∃ (nd : Nd) (a : Option Addr) (len cap : Nat), e = .returned (.tuple #[exV nd (.slice a len cap), .int .i64 q, .int .i64 er]) ∧ Below w.heap.size w w' ∧ T w' (exV nd (.slice a len cap))
theorem parse_ok {s : ByteArray} (hs : s.size ≤ maxLen) {t : Ex} {j : Nat} (hp : parR s = .ok t j) (w : World) (h8 : Lay8 w) : Calls Tryz.prog 11 #[.string s] w fun e w' => PaQ w 0 0 (fun w' v => Tree w' v t) e w' := by
  refine (parse_any s hs w h8).mono ?_
  intro e w' h
  rw [hp] at h
  obtain ⟨a, len, cap, bs, rfl, hN, hb, hsm⟩ := h
  exact ⟨t.nd, a, len, cap, rfl, hb, hN.ow.in' _ (fun k hk => (hN.at' k hk).2) hsm⟩
theorem parse_no {s : ByteArray} (hs : s.size ≤ maxLen) {er a : Nat} (hp : parR s = .bad er a) (w : World) (h8 : Lay8 w) : Calls Tryz.prog 11 #[.string s] w fun e w' => PaQ w a er (fun _ _ => True) e w' := by
  refine (parse_any s hs w h8).mono ?_
  intro e w' h
  rw [hp] at h
  obtain ⟨rfl, hb⟩ := h
  exact ⟨ndZ, none, 0, 0, rfl, hb, trivial⟩
abbrev nG1 : Nd := ⟨6, 0, 0, no10, ⟨1, 1, false, false⟩, ⟨0, 0, true, true⟩, 0⟩
abbrev nE1 : Nd := ⟨4, 0, 3, no10, rf0, rf0, 0⟩
abbrev nC1 : Nd := ⟨9, 0, 0, no10, rf0, rf0, 54⟩
theorem sum_t (wx : World) : Tree ((wx.alloc (.cells (exC nG1 e0 ++ exC nE1 e0) 30)).alloc (exO nC1 (.slice (some ⟨wx.heap.size, 0, none⟩) 2 2))) (exV nC1 (.slice (some ⟨wx.heap.size, 0, none⟩) 2 2)) (callX 54 [.mk nG1 [], leafX 4 3 no10]) := by
  have h := (Blk.new wx (exC nG1 e0 ++ exC nE1 e0) 30).alloc (exO nC1 (.slice (some ⟨wx.heap.size, 0, none⟩) 2 2))
  obtain ⟨r1, r2⟩ := h.row2
  unfold Tree In
  refine ⟨_, 2, 2, rfl, rfl, by omega, Nat.zero_le _, .inr ⟨wx.heap.size, 0, rfl, h.lt, ?_⟩⟩
  unfold Kids
  refine ⟨⟨_, leaf_in _ _ nG1 (Nat.zero_le _), r1⟩, ?_⟩
  unfold Kids
  exact ⟨⟨_, leaf_in _ _ nE1 (Nat.zero_le _), r2⟩, by unfold Kids; trivial⟩
set_option maxHeartbeats 8000000 in
set_option maxRecDepth 100000 in
theorem begun10 (w : World) (h8 : Lay8 w) : Calls Tryz.prog 9 #[] w fun e w' => e = .returned (.bool true) ∧ Below w.heap.size w w' := by
  have H1 := hide (fun w' (hb : Below w.heap.size w w') => parse_ok (s := q1) (by decide) p1 w' (h8.keep hb))
  have H2 := hide (fun w' (hb : Below w.heap.size w w') => parse_ok (s := q2) (by decide) p2 w' (h8.keep hb))
  have H3 := hide (fun w' (hb : Below w.heap.size w w') => parse_no (s := q3) (by decide) p3 w' (h8.keep hb))
  have H4 := hide (fun w' (hb : Below w.heap.size w w') => parse_no (s := q4) (by decide) p4 w' (h8.keep hb))
  have H5 := hide (fun w' (hb : Below w.heap.size w w') => parse_no (s := q5) (by decide) p5 w' (h8.keep hb))
  have B0 := hide (Below.refl w.heap.size w)
  clear h8
  go_enter Tryz.func9, Tryz.ntmps9
  go_upto_region 7 with (first
    | (have hq := B4; go_at_call 11; refine (H5.out _ B4.out).mono ?_; rintro e w5 ⟨n5, a5, l5, c5, rfl, hb, _⟩; clear hq; have hs5 := run_putnew w5 n5 a5 l5 c5; have B5 := hide (step (next B4.out hb) (exO n5 (.slice a5 l5 c5))); have X5 := hide ((X4.out.keep hb).alloc (exO n5 (.slice a5 l5 c5))); have Y5 := hide ((Y4.out.keep hb).alloc (exO n5 (.slice a5 l5 c5))); have T5 := hide ((T4.out.step hb).step (step (Below.refl _ _) (exO n5 (.slice a5 l5 c5)))); have S5 := hide ((S4.out.step hb).step (step (Below.refl _ _) (exO n5 (.slice a5 l5 c5)))); clear hb B4 X4 Y4 T4 S4)
    | (have hq := B3; go_at_call 11; refine (H4.out _ B3.out).mono ?_; rintro e w4 ⟨n4, a4, l4, c4, rfl, hb, _⟩; clear hq; have hs4 := run_putnew w4 n4 a4 l4 c4; have B4 := hide (step (next B3.out hb) (exO n4 (.slice a4 l4 c4))); have X4 := hide ((X3.out.keep hb).alloc (exO n4 (.slice a4 l4 c4))); have Y4 := hide ((Y3.out.keep hb).alloc (exO n4 (.slice a4 l4 c4))); have T4 := hide ((T3.out.step hb).step (step (Below.refl _ _) (exO n4 (.slice a4 l4 c4)))); have S4 := hide ((S3.out.step hb).step (step (Below.refl _ _) (exO n4 (.slice a4 l4 c4)))); clear hb B3 X3 Y3 T3 S3)
    | (have hq := B2; go_at_call 11; refine (H3.out _ B2.out).mono ?_; rintro e w3 ⟨n3, a3, l3, c3, rfl, hb, _⟩; clear hq; have hs3 := run_putnew w3 n3 a3 l3 c3; have B3 := hide (step (next B2.out hb) (exO n3 (.slice a3 l3 c3))); have X3 := hide ((X2.out.keep hb).alloc (exO n3 (.slice a3 l3 c3))); have Y3 := hide ((Y2.out.keep hb).alloc (exO n3 (.slice a3 l3 c3))); have T3 := hide ((T2.out.step hb).step (step (Below.refl _ _) (exO n3 (.slice a3 l3 c3)))); have S3 := hide ((S2.out.step hb).step (step (Below.refl _ _) (exO n3 (.slice a3 l3 c3)))); clear hb B2 X2 Y2 T2 S2)
    | (have hq := B1; go_at_call 11; refine (H2.out _ B1.out).mono ?_; rintro e w2 ⟨n2, a2, l2, c2, rfl, hb, hT⟩; clear hq; have hs2 := run_putnew w2 n2 a2 l2 c2; have B2 := hide (step (next B1.out hb) (exO n2 (.slice a2 l2 c2))); have X2 := hide ((X1.out.keep hb).alloc (exO n2 (.slice a2 l2 c2))); have Y2 := hide (Blk.new w2 (exC n2 (.slice a2 l2 c2)) 30); have T2 := hide ((T1.out.step hb).step (step (Below.refl _ _) (exO n2 (.slice a2 l2 c2)))); have S2 := hide (Tree.step hT (step (Below.refl _ _) (exO n2 (.slice a2 l2 c2)))); clear hb hT B1 X1 T1)
    | (have hq := B0; go_at_call 11; refine (H1.out _ B0.out).mono ?_; rintro e w1 ⟨n1, a1, l1, c1, rfl, hb, hT⟩; clear hq; have hs1 := run_putnew w1 n1 a1 l1 c1; have B1 := hide (step (next B0.out hb) (exO n1 (.slice a1 l1 c1))); have X1 := hide (Blk.new w1 (exC n1 (.slice a1 l1 c1)) 30); have T1 := hide (Tree.step hT (step (Below.refl _ _) (exO n1 (.slice a1 l1 c1)))); clear hb hT B0))
  have hX := Blk.new1 w5 (exO n5 (.slice a5 l5 c5)) (exC nR1 e0) 30
  have B6 := hide (step B5.out (exO nR1 e0))
  have X6 := hide (X5.out.alloc (exO nR1 e0))
  have Y6 := hide (Y5.out.alloc (exO nR1 e0))
  have T6 := hide (T5.out.step (step (Below.refl _ _) (exO nR1 e0)))
  have S6 := hide (S5.out.step (step (Below.refl _ _) (exO nR1 e0)))
  clear H1 H2 H3 H4 H5 B5 X5 Y5 T5 S5 hs1 hs2 hs3 hs4 hs5
  refine bg_reg _ (w5.heap.size + 1) hX _ _ _ _ _ _ _ _ _ _ _ _ _ _ _ _ _ _ _ _ _ _ _ _ _ _ _ _ _ _ _ _ _ _ _ _ _ _ _ _ _ _ _ _ _ _ _ _ _ _ _ _ _ _ _ _ _ _ _ _ _ _ _ _ _ _ _ _ _ _ _ _ _ _ _ _ _ _ _ _ _ _ _ _ _ _ _ _ _ _ _ ?_
  intro wx x46 x47 x48 x49 x50 x51 U B hb hU hV
  have B7 := hide (next B6.out hb)
  have X7 := hide (X6.out.keep hb)
  have Y7 := hide (Y6.out.keep hb)
  have T7 := hide (T6.out.step hb)
  have S7 := hide (S6.out.step hb)
  have U7 := hide hU
  have V7 := hide hV
  clear hb hU hV hX B6 X6 Y6 T6 S6
  go_upto_region 9 with (first
    | (refine Go.Great.wpList_buildSliceTo rfl 28 30 2 _ rfl wx.heap.size rfl _ rfl Tryz.underlying28 (exC nG1 e0 ++ exC nE1 e0) (by rw [Array.toList_map]; exact built2 nG1 nE1 e0 e0) ?_))
  have B8 := hide (step (step B7.out (.cells (exC nG1 e0 ++ exC nE1 e0) 30)) (exO nC1 (.slice (some ⟨wx.heap.size, 0, none⟩) 2 2)))
  have C8 := hide (step (step (Below.refl wx.heap.size wx) (.cells (exC nG1 e0 ++ exC nE1 e0) 30)) (exO nC1 (.slice (some ⟨wx.heap.size, 0, none⟩) 2 2)))
  have X8 := hide (X7.out.keep C8.out)
  have Y8 := hide (Y7.out.keep C8.out)
  have U8 := hide (U7.out.keep C8.out)
  have Q8 := hide (Blk.new1 wx (.cells (exC nG1 e0 ++ exC nE1 e0) 30) (exC nC1 (.slice (some ⟨wx.heap.size, 0, none⟩) 2 2)) 30)
  have E1 := hide (leq_any _ _ _ _ _ (T7.out.step C8.out) (V7.out.step C8.out))
  rw [same_self] at E1
  have S8 := hide (S7.out.step C8.out)
  have V8 := hide (sum_t wx)
  have E2 := hide (fun w' (h : Below _ _ w') => leq_any _ _ _ _ w' (S8.out.step h) (V8.out.step h))
  rw [same_self] at E2
  clear B7 X7 Y7 T7 S7 U7 V7 S8 V8 C8
  show Code.wp _ _ _ _ ((wx.alloc (.cells (exC nG1 e0 ++ exC nE1 e0) 30)).alloc (exO nC1 (.slice (some ⟨wx.heap.size, 0, none⟩) 2 2)))
  replace Q8 : Hid (Blk ((wx.alloc (.cells (exC nG1 e0 ++ exC nE1 e0) 30)).alloc (exO nC1 (.slice (some ⟨wx.heap.size, 0, none⟩) 2 2))) (wx.heap.size + 1) (exC nC1 (.slice (some ⟨wx.heap.size, 0, none⟩) 2 2)) 30) := Q8
  generalize (wx.alloc (.cells (exC nG1 e0 ++ exC nE1 e0) 30)).alloc (exO nC1 (.slice (some ⟨wx.heap.size, 0, none⟩) 2 2)) = W8 at *
  go_wp2_with (first
    | (refine wpList_load_blk_g rfl 30 _ rfl _ rfl _ (by with_reducible exact X8.out) _ Tryz.underlying30 rfl (exC_info _ _) ?_)
    | (refine wpList_load_blk_g rfl 30 _ rfl _ rfl _ (by with_reducible exact U8.out) _ Tryz.underlying30 rfl (exC_info _ _) ?_)
    | (refine wpList_load_blk_g rfl 30 _ rfl _ rfl _ (by with_reducible exact Y9.out) _ Tryz.underlying30 rfl (exC_info _ _) ?_)
    | (refine wpList_load_blk_g rfl 30 _ rfl _ rfl _ (by with_reducible exact Q9.out) _ Tryz.underlying30 rfl (exC_info _ _) ?_)
    | (have hq := B9; go_at_call 14; (refine (E2.out _ hb9.out).mono ?_; rintro e w10 ⟨rfl, hb⟩; clear hq; have B10 := hide (next B9.out hb); clear hb B9))
    | (have hq := B8; go_at_call 14; (refine E1.out.mono ?_; rintro e w9 ⟨rfl, hb⟩; clear hq; have B9 := hide (next B8.out hb); have hb9 := hide hb; have Y9 := hide (Y8.out.keep hb); have Q9 := hide (Q8.out.keep hb); clear hb B8)))
  go_ret
  exact ⟨rfl, B10.out⟩
end Go.Proofs.YtdlomdbmmhjppaaGreatDoor.T9
