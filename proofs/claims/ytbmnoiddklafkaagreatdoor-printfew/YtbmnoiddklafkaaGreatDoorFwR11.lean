/- PrintFew: the statement that strikes the pair and parses what is left: its order is drawn; what every order keeps. -/
import Derived.Test.YtbmnoiddklafkaaGreatDoorPbJ
import Derived.Test.YtbmnoiddklafkaaGreatDoorQtJ
import Derived.Deep.CutRange
namespace Go.Proofs.YtbmnoiddklafkaaGreatDoor.T9
open Go.RowKit Go.Sort
set_option linter.unusedVariables false

theorem ndZ_not {t : Ex} (h : mayR t = 0) : ¬ (Ex.mk ndZ []) = t := by
  intro e
  subst e
  revert h
  decide +kernel
/-- What is read is another tree, or nothing is. -/
def FewP (t : Ex) (w : World) (e : Ending) (w' : World) : Prop := ∃ (nd : Nd) (a : Option Addr) (len cap : Nat) (q er : Int) (u : Ex) (m : Nat → Prop), e = .returned (.tuple #[exV nd (.slice a len cap), .int .i64 q, .int .i64 er]) ∧ Below w.heap.size w w' ∧ In m w' (exV nd (.slice a len cap)) u ∧ (∀ k, m k → w.heap.size ≤ k ∧ k < w'.heap.size) ∧ ¬ u = t
theorem few_call {t : Ex} (h : mayR t = 0) (s : ByteArray) (hs : s.size ≤ maxLen) (hu : ∀ u j, parR s = .ok u j → ¬ u = t) (w : World) (h8 : Lay8 w) : Calls Tryz.prog 11 #[.string s] w fun e w' => FewP t w e w' := by
  refine (parse_any s hs w h8).mono ?_
  intro e w' hp
  cases hr : parR s with
  | bad er a =>
    rw [hr] at hp
    obtain ⟨rfl, hb⟩ := hp
    exact ⟨ndZ, none, 0, 0, (a : Int), (er : Int), .mk ndZ [], fun _ => False, rfl, hb, leaf_in _ _ ndZ (Nat.zero_le _), fun k hk => hk.elim, ndZ_not h⟩
  | ok u j =>
    rw [hr] at hp
    obtain ⟨a, len, cap, bs, rfl, hN, hb, hsm⟩ := hp
    exact ⟨u.nd, a, len, cap, 0, 0, u, (· ∈ bs), rfl, hb, hN.ow.in' _ (fun k hk => hk) hsm, hN.at', hu u j hr⟩
theorem FewP.below {t : Ex} {w w' : World} {e : Ending} (h : FewP t w e w') : Below w.heap.size w w' := by obtain ⟨_, _, _, _, _, _, _, _, _, hb, _⟩ := h; exact hb
theorem FewP.ret {t : Ex} {w w' : World} {e : Ending} (h : FewP t w e w') : ∃ v, e = .returned v := by obtain ⟨_, _, _, _, _, _, _, _, e, _⟩ := h; exact ⟨_, e⟩
theorem tup3 {a b c a' b' c' : Value} (h : Value.tuple #[a, b, c] = Value.tuple #[a', b', c']) : a = a' ∧ b = b' ∧ c = c' := by simpa using h
theorem no_t {x y : Bool} (h : x = true → y = true) (hy : y = false) : x = false := by cases x; rfl; exact absurd (h rfl) (by rw [hy]; decide)
abbrev lset (L : Nat → Bool) (i : Nat) : Nat → Bool := fun j => if j = i then true else L j
/-- What the call left, as long as nothing writes into it. -/
structure FewT (t : Ex) (w' : World) (x53 : Value) (U : Option Nat) : Prop where
  ex : ∃ (nd : Nd) (a : Option Addr) (len cap : Nat) (q er : Int) (u : Ex) (m : Nat → Prop), x53 = .tuple #[exV nd (.slice a len cap), .int .i64 q, .int .i64 er] ∧ In m w' (exV nd (.slice a len cap)) u ∧ (∀ k, m k → k < w'.heap.size ∧ some k ≠ U) ∧ ¬ u = t
theorem FewT.alloc {t : Ex} {w' : World} {x53 : Value} {U : Option Nat} (h : FewT t w' x53 U) (o : Obj) : FewT t (w'.alloc o) x53 (some w'.heap.size) := by
  obtain ⟨nd, a, len, cap, q, er, u, m, e, hI, hm, hn⟩ := h.ex
  exact ⟨nd, a, len, cap, q, er, u, m, e, hI.keep (fun k hk => (hm k hk).1) (step (Below.refl _ _) o), fun k hk => ⟨by have := (hm k hk).1; simp; omega, fun e => by have := (hm k hk).1; have := Option.some.inj e; omega⟩, hn⟩
theorem FewT.put {t : Ex} {w' : World} {x53 : Value} {U : Nat} (h : FewT t w' x53 (some U)) (cs : Array Value) : FewT t (w'.setRow U cs) x53 (some U) := by
  obtain ⟨nd, a, len, cap, q, er, u, m, e, hI, hm, hn⟩ := h.ex
  exact ⟨nd, a, len, cap, q, er, u, m, e, hI.move (fun k hk => ⟨hk, setRow_other _ _ _ _ (fun e => (hm k hk).2 (congrArg some e))⟩), fun k hk => ⟨by rw [size_setRow]; exact (hm k hk).1, (hm k hk).2⟩, hn⟩
theorem FewP.t {t : Ex} {w1 w' : World} {v : Value} {U : Option Nat} (h : FewP t w1 (.returned v) w') (hU : ∀ X, U = some X → X < w1.heap.size) : FewT t w' v U := by
  obtain ⟨nd, a, len, cap, q, er, u, m, e, _, hI, hm, hn⟩ := h
  exact ⟨nd, a, len, cap, q, er, u, m, Ending.returned.inj e, hI, fun k hk => ⟨(hm k hk).2, fun e => by have := (hm k hk).1; have := hU _ e.symm; omega⟩, hn⟩
/-- The block of the pointer. -/
def pU : Value → Option Nat
  | .pointer (some ⟨U, _, _⟩) => some U
  | _ => none

/-- What every order keeps. -/
structure FwI (t : Ex) (w4 : World) (X4 k i : Nat) (LL S1 S2 S3 SY SX : ByteArray) (w' : World) (L : Nat → Bool) (x9 x10 x11 x34 x35 x36 x37 x38 x39 x40 x41 x42 x43 x44 x45 x46 x47 x48 x49 x50 x51 x52 x53 x54 x55 x56 : Value) : Prop where
  bel : Below w4.heap.size w4 w'
  f0 : L 0 = true → x35 = .string LL
  f1 : L 1 = true → x36 = .pointer (some ⟨X4, 0, none⟩)
  f2 : L 2 = true → x37 = .int .i64 (k : Int)
  f3 : L 3 = true → x38 = .string S1
  f4 : L 4 = true → x39 = .string LL
  f5 : L 5 = true → x40 = .pointer (some ⟨X4, 0, none⟩)
  f6 : L 6 = true → x41 = .int .i64 (k : Int)
  f7 : L 7 = true → x42 = .int .i64 ((k : Int) + 1)
  f8 : L 8 = true → x43 = .pointer (some ⟨X4, 1, none⟩)
  f9 : L 9 = true → x44 = .int .i64 (i : Int)
  f10 : L 10 = true → x45 = .string S2
  f11 : L 11 = true → x46 = .string SY
  f12 : L 12 = true → x47 = .string LL
  f13 : L 13 = true → x48 = .pointer (some ⟨X4, 1, none⟩)
  f14 : L 14 = true → x49 = .int .i64 (i : Int)
  f15 : L 15 = true → x50 = .int .i64 ((i : Int) + 1)
  f16 : L 16 = true → x51 = .string S3
  f17 : L 17 = true → x52 = .string SX
  f18 : L 18 = true → FewT t w' x53 (if L 23 = true then pU x9 else none)
  f19 : L 19 = true → L 18 = true ∧ x34 = x53
  f20 : L 20 = true → L 19 = true ∧ ∀ v q e, x53 = .tuple #[v, q, e] → x54 = v
  f21 : L 21 = true → L 19 = true ∧ ∀ v q e, x53 = .tuple #[v, q, e] → x55 = q
  f22 : L 22 = true → L 19 = true ∧ ∀ v q e, x53 = .tuple #[v, q, e] → x56 = e
  f23 : L 23 = true → ∃ U, x9 = .pointer (some ⟨U, 0, none⟩) ∧ w4.heap.size ≤ U ∧ U < w'.heap.size ∧ (L 24 = false → Blk w' U z14b 30)
  f24 : L 24 = true → L 20 = true ∧ L 23 = true ∧ ∀ U cs, x9 = .pointer (some ⟨U, 0, none⟩) → x54 = .agg cs → Blk w' U cs 30
  f25 : L 25 = true → L 21 = true ∧ x10 = x55
  f26 : L 26 = true → L 22 = true ∧ x11 = x56
set_option maxHeartbeats 8000000 in
set_option maxRecDepth 100000 in
theorem few_reg (t : Ex) (w4 : World) (X4 k i : Nat) (LL S1 S2 S3 SY SX : ByteArray) (hxb : Blk w4 X4 #[.int .i64 (k : Int), .int .i64 (i : Int)] 61)
    (e1 : wrap64 ((k : Int) + 1) = (k : Int) + 1) (e2 : wrap64 ((i : Int) + 1) = (i : Int) + 1)
    (s1 : ∀ w, (Instr.slice 9 (.string LL) none (some (.int .i64 (k : Int))) none).run Tryz.prog w = .ok (.string S1) w) (s2 : ∀ w, (Instr.slice 9 (.string LL) (some (.int .i64 ((k : Int) + 1))) (some (.int .i64 (i : Int))) none).run Tryz.prog w = .ok (.string S2) w) (s3 : ∀ w, (Instr.slice 9 (.string LL) (some (.int .i64 ((i : Int) + 1))) none none).run Tryz.prog w = .ok (.string S3) w)
    (a1 : ∀ w, Sem.run Tryz.prog (Op.stringOp BinOp.add S1 S2) w = Result.ok (.string SY) w) (a2 : ∀ w, Sem.run Tryz.prog (Op.stringOp BinOp.add SY S3) w = Result.ok (.string SX) w)
    (HP : ∀ w', Below w4.heap.size w4 w' → Calls Tryz.prog 11 #[.string SX] w' fun e w'' => FewP t w' e w'')
    (y0 y1 y2 y3 y4 y6 y7 y12 y13 y14 y15 y16 y17 y18 y19 y20 y21 y22 y23 y24 y25 y26 y27 y28 y29 y30 y31 y32 y33 y57 y58 y59 y60 y61 y62 y63 y64 : Value) (Q : Exit → Act → World → Prop)
    (hQ : ∀ wx (x34 x35 x36 x37 x38 x39 x40 x41 x42 x43 x44 x45 x46 x47 x48 x49 x50 x51 x52 x53 x54 x55 x56 : Value) (U : Nat) (nd2 : Nd) (a2 : Option Addr) (len2 cap2 : Nat) (q er : Int) (u : Ex), Below w4.heap.size w4 wx → Blk wx U (exC nd2 (.slice a2 len2 cap2)) 30 → Tree wx (exV nd2 (.slice a2 len2 cap2)) u → ¬ u = t → Q .normal ⟨#[y0, y1, y2, y3, y4, .string LL, y6, y7, .pointer (some ⟨X4, 0, none⟩), .pointer (some ⟨U, 0, none⟩), .int .i64 q, .int .i64 er, y12, y13, y14, y15, y16, y17, y18, y19, y20, y21, y22, y23, y24, y25, y26, y27, y28, y29, y30, y31, y32, y33, x34, x35, x36, x37, x38, x39, x40, x41, x42, x43, x44, x45, x46, x47, x48, x49, x50, x51, x52, x53, x54, x55, x56, y57, y58, y59, y60, y61, y62, y63, y64], []⟩ wx) :
    Code.wp Tryz.prog (.region 10 #[{ dst := some 35, op := Op.move (Operand.tmp 5), type := 9, pos := "law.go:113", after := #[], guard := none }, { dst := some 36, op := Op.indexAddr 61 (Operand.tmp 8) (Operand.const (Value.int IntKind.i64 0)), type := 0, pos := "law.go:113", after := #[], guard := none }, { dst := some 37, op := Op.load 3 (Operand.tmp 36), type := 3, pos := "law.go:113", after := #[{ on := 1, ground := Ground.data }], guard := none }, { dst := some 38, op := Op.slice 9 (Operand.tmp 35) none (some (Operand.tmp 37)) none, type := 9, pos := "law.go:113", after := #[{ on := 0, ground := Ground.data }, { on := 2, ground := Ground.data }], guard := none }, { dst := some 39, op := Op.move (Operand.tmp 5), type := 9, pos := "law.go:113", after := #[], guard := none }, { dst := some 40, op := Op.indexAddr 61 (Operand.tmp 8) (Operand.const (Value.int IntKind.i64 0)), type := 0, pos := "law.go:113", after := #[], guard := none }, { dst := some 41, op := Op.load 3 (Operand.tmp 40), type := 3, pos := "law.go:113", after := #[{ on := 5, ground := Ground.data }], guard := none }, { dst := some 42, op := Op.binOp BinOp.add 3 (Operand.tmp 41) (Operand.const (Value.int IntKind.i64 1)) 3, type := 3, pos := "law.go:113", after := #[{ on := 6, ground := Ground.data }], guard := none }, { dst := some 43, op := Op.indexAddr 61 (Operand.tmp 8) (Operand.const (Value.int IntKind.i64 1)), type := 0, pos := "law.go:113", after := #[], guard := none }, { dst := some 44, op := Op.load 3 (Operand.tmp 43), type := 3, pos := "law.go:113", after := #[{ on := 8, ground := Ground.data }], guard := none }, { dst := some 45, op := Op.slice 9 (Operand.tmp 39) (some (Operand.tmp 42)) (some (Operand.tmp 44)) none, type := 9, pos := "law.go:113", after := #[{ on := 4, ground := Ground.data }, { on := 7, ground := Ground.data }, { on := 9, ground := Ground.data }], guard := none }, { dst := some 46, op := Op.binOp BinOp.add 9 (Operand.tmp 38) (Operand.tmp 45) 9, type := 9, pos := "law.go:113", after := #[{ on := 3, ground := Ground.data }, { on := 10, ground := Ground.data }], guard := none }, { dst := some 47, op := Op.move (Operand.tmp 5), type := 9, pos := "law.go:113", after := #[], guard := none }, { dst := some 48, op := Op.indexAddr 61 (Operand.tmp 8) (Operand.const (Value.int IntKind.i64 1)), type := 0, pos := "law.go:113", after := #[], guard := none }, { dst := some 49, op := Op.load 3 (Operand.tmp 48), type := 3, pos := "law.go:113", after := #[{ on := 13, ground := Ground.data }], guard := none }, { dst := some 50, op := Op.binOp BinOp.add 3 (Operand.tmp 49) (Operand.const (Value.int IntKind.i64 1)) 3, type := 3, pos := "law.go:113", after := #[{ on := 14, ground := Ground.data }], guard := none }, { dst := some 51, op := Op.slice 9 (Operand.tmp 47) (some (Operand.tmp 50)) none none, type := 9, pos := "law.go:113", after := #[{ on := 12, ground := Ground.data }, { on := 15, ground := Ground.data }], guard := none }, { dst := some 52, op := Op.binOp BinOp.add 9 (Operand.tmp 46) (Operand.tmp 51) 9, type := 9, pos := "law.go:113", after := #[{ on := 11, ground := Ground.data }, { on := 16, ground := Ground.data }], guard := none }, { dst := some 53, op := Op.call { callee := Callee.value (Operand.func 11), args := #[Operand.tmp 52], argTypes := #[9] }, type := 32, pos := "law.go:113", after := #[{ on := 17, ground := Ground.data }], guard := none }, { dst := some 34, op := Op.move (Operand.tmp 53), type := 32, pos := "law.go:113", after := #[{ on := 18, ground := Ground.data }], guard := none }, { dst := some 54, op := Op.extract (Operand.tmp 34) 0, type := 30, pos := "law.go:113", after := #[{ on := 19, ground := Ground.data }], guard := none }, { dst := some 55, op := Op.extract (Operand.tmp 34) 1, type := 3, pos := "law.go:113", after := #[{ on := 19, ground := Ground.data }, { on := 24, ground := Ground.gcOnly Departure.lateStores }], guard := none }, { dst := some 56, op := Op.extract (Operand.tmp 34) 2, type := 31, pos := "law.go:113", after := #[{ on := 19, ground := Ground.data }, { on := 25, ground := Ground.gcOnly Departure.lateStores }], guard := none }, { dst := some 9, op := Op.alloc 30, type := 0, pos := "law.go:113", after := #[], guard := none }, { dst := none, op := Op.store 30 (Operand.tmp 9) (Operand.tmp 54), type := 0, pos := "law.go:113", after := #[{ on := 23, ground := Ground.data }, { on := 20, ground := Ground.data }, { on := 18, ground := Ground.chain }, { on := 0, ground := Ground.phase }, { on := 1, ground := Ground.phase }, { on := 2, ground := Ground.phase }, { on := 3, ground := Ground.phase }, { on := 4, ground := Ground.phase }, { on := 5, ground := Ground.phase }, { on := 6, ground := Ground.phase }, { on := 7, ground := Ground.phase }, { on := 8, ground := Ground.phase }, { on := 9, ground := Ground.phase }, { on := 10, ground := Ground.phase }, { on := 11, ground := Ground.phase }, { on := 12, ground := Ground.phase }, { on := 13, ground := Ground.phase }, { on := 14, ground := Ground.phase }, { on := 15, ground := Ground.phase }, { on := 16, ground := Ground.phase }, { on := 17, ground := Ground.phase }, { on := 18, ground := Ground.phase }, { on := 19, ground := Ground.phase }, { on := 20, ground := Ground.phase }, { on := 21, ground := Ground.textOnly Departure.lateStores }, { on := 22, ground := Ground.textOnly Departure.lateStores }, { on := 23, ground := Ground.phase }], guard := none }, { dst := some 10, op := Op.assign (Operand.tmp 55), type := 3, pos := "law.go:113", after := #[{ on := 21, ground := Ground.data }, { on := 24, ground := Ground.chain }, { on := 0, ground := Ground.phase }, { on := 1, ground := Ground.phase }, { on := 2, ground := Ground.phase }, { on := 3, ground := Ground.phase }, { on := 4, ground := Ground.phase }, { on := 5, ground := Ground.phase }, { on := 6, ground := Ground.phase }, { on := 7, ground := Ground.phase }, { on := 8, ground := Ground.phase }, { on := 9, ground := Ground.phase }, { on := 10, ground := Ground.phase }, { on := 11, ground := Ground.phase }, { on := 12, ground := Ground.phase }, { on := 13, ground := Ground.phase }, { on := 14, ground := Ground.phase }, { on := 15, ground := Ground.phase }, { on := 16, ground := Ground.phase }, { on := 17, ground := Ground.phase }, { on := 18, ground := Ground.phase }, { on := 19, ground := Ground.phase }, { on := 20, ground := Ground.phase }, { on := 21, ground := Ground.phase }, { on := 22, ground := Ground.textOnly Departure.lateStores }, { on := 23, ground := Ground.phase }, { on := 24, ground := Ground.phase }], guard := none }, { dst := some 11, op := Op.assign (Operand.tmp 56), type := 31, pos := "law.go:113", after := #[{ on := 22, ground := Ground.data }, { on := 25, ground := Ground.chain }, { on := 0, ground := Ground.phase }, { on := 1, ground := Ground.phase }, { on := 2, ground := Ground.phase }, { on := 3, ground := Ground.phase }, { on := 4, ground := Ground.phase }, { on := 5, ground := Ground.phase }, { on := 6, ground := Ground.phase }, { on := 7, ground := Ground.phase }, { on := 8, ground := Ground.phase }, { on := 9, ground := Ground.phase }, { on := 10, ground := Ground.phase }, { on := 11, ground := Ground.phase }, { on := 12, ground := Ground.phase }, { on := 13, ground := Ground.phase }, { on := 14, ground := Ground.phase }, { on := 15, ground := Ground.phase }, { on := 16, ground := Ground.phase }, { on := 17, ground := Ground.phase }, { on := 18, ground := Ground.phase }, { on := 19, ground := Ground.phase }, { on := 20, ground := Ground.phase }, { on := 21, ground := Ground.phase }, { on := 22, ground := Ground.phase }, { on := 23, ground := Ground.phase }, { on := 24, ground := Ground.phase }, { on := 25, ground := Ground.phase }], guard := none }] true) Q ⟨#[y0, y1, y2, y3, y4, .string LL, y6, y7, .pointer (some ⟨X4, 0, none⟩), undef, undef, undef, y12, y13, y14, y15, y16, y17, y18, y19, y20, y21, y22, y23, y24, y25, y26, y27, y28, y29, y30, y31, y32, y33, undef, undef, undef, undef, undef, undef, undef, undef, undef, undef, undef, undef, undef, undef, undef, undef, undef, undef, undef, undef, undef, undef, undef, y57, y58, y59, y60, y61, y62, y63, y64], []⟩ w4 := by
  have c0 : w4.cell? ⟨X4, 0, none⟩ = some (.int .i64 (k : Int)) := hxb.at' 0
  have c1 : w4.cell? ⟨X4, 1, none⟩ = some (.int .i64 (i : Int)) := hxb.at' 1
  replace hQ := hide hQ
  replace HP := hide HP
  clear hxb
  refine region_inv (fun (L : Nat → Bool) (a₁ : Act) (w₁ : World) => ∃ (x9 x10 x11 x34 x35 x36 x37 x38 x39 x40 x41 x42 x43 x44 x45 x46 x47 x48 x49 x50 x51 x52 x53 x54 x55 x56 : Value), a₁ = ⟨#[y0, y1, y2, y3, y4, .string LL, y6, y7, .pointer (some ⟨X4, 0, none⟩), x9, x10, x11, y12, y13, y14, y15, y16, y17, y18, y19, y20, y21, y22, y23, y24, y25, y26, y27, y28, y29, y30, y31, y32, y33, x34, x35, x36, x37, x38, x39, x40, x41, x42, x43, x44, x45, x46, x47, x48, x49, x50, x51, x52, x53, x54, x55, x56, y57, y58, y59, y60, y61, y62, y63, y64], []⟩ ∧ FwI t w4 X4 k i LL S1 S2 S3 SY SX w₁ L x9 x10 x11 x34 x35 x36 x37 x38 x39 x40 x41 x42 x43 x44 x45 x46 x47 x48 x49 x50 x51 x52 x53 x54 x55 x56) (by kernel_rfl) (by kernel_rfl) ?_ ?_ ?_
  · exact ⟨undef, undef, undef, undef, undef, undef, undef, undef, undef, undef, undef, undef, undef, undef, undef, undef, undef, undef, undef, undef, undef, undef, undef, undef, undef, undef, rfl, ⟨(Below.refl _ _).drew, fun q => absurd q (by decide), fun q => absurd q (by decide), fun q => absurd q (by decide), fun q => absurd q (by decide), fun q => absurd q (by decide), fun q => absurd q (by decide), fun q => absurd q (by decide), fun q => absurd q (by decide), fun q => absurd q (by decide), fun q => absurd q (by decide), fun q => absurd q (by decide), fun q => absurd q (by decide), fun q => absurd q (by decide), fun q => absurd q (by decide), fun q => absurd q (by decide), fun q => absurd q (by decide), fun q => absurd q (by decide), fun q => absurd q (by decide), fun q => absurd q (by decide), fun q => absurd q (by decide), fun q => absurd q (by decide), fun q => absurd q (by decide), fun q => absurd q (by decide), fun q => absurd q (by decide), fun q => absurd q (by decide), fun q => absurd q (by decide), fun q => absurd q (by decide)⟩⟩
  · intro ix hi L a₁ w₁ hI hLi hdep
    obtain ⟨x9, x10, x11, x34, x35, x36, x37, x38, x39, x40, x41, x42, x43, x44, x45, x46, x47, x48, x49, x50, x51, x52, x53, x54, x55, x56, ha, h⟩ := hI
    subst ha
    have d0 : w₁.cell? ⟨X4, 0, none⟩ = some (.int .i64 (k : Int)) := keep1 h.bel c0
    have d1 : w₁.cell? ⟨X4, 1, none⟩ = some (.int .i64 (i : Int)) := keep1 h.bel c1
    clear c0 c1
    have hcases : ix = 0 ∨ ix = 1 ∨ ix = 2 ∨ ix = 3 ∨ ix = 4 ∨ ix = 5 ∨ ix = 6 ∨ ix = 7 ∨ ix = 8 ∨ ix = 9 ∨ ix = 10 ∨ ix = 11 ∨ ix = 12 ∨ ix = 13 ∨ ix = 14 ∨ ix = 15 ∨ ix = 16 ∨ ix = 17 ∨ ix = 18 ∨ ix = 19 ∨ ix = 20 ∨ ix = 21 ∨ ix = 22 ∨ ix = 23 ∨ ix = 24 ∨ ix = 25 ∨ ix = 26 := (show ∀ ix, ix < 27 → (ix = 0 ∨ ix = 1 ∨ ix = 2 ∨ ix = 3 ∨ ix = 4 ∨ ix = 5 ∨ ix = 6 ∨ ix = 7 ∨ ix = 8 ∨ ix = 9 ∨ ix = 10 ∨ ix = 11 ∨ ix = 12 ∨ ix = 13 ∨ ix = 14 ∨ ix = 15 ∨ ix = 16 ∨ ix = 17 ∨ ix = 18 ∨ ix = 19 ∨ ix = 20 ∨ ix = 21 ∨ ix = 22 ∨ ix = 23 ∨ ix = 24 ∨ ix = 25 ∨ ix = 26) by decide +kernel) ix hi
    clear hi
    rcases hcases with rfl | rfl | rfl | rfl | rfl | rfl | rfl | rfl | rfl | rfl | rfl | rfl | rfl | rfl | rfl | rfl | rfl | rfl | rfl | rfl | rfl | rfl | rfl | rfl | rfl | rfl | rfl
    · clear hdep
      refine wpOp_step rfl (fun K' hKK => ?_)
      replace hKK := hide hKK
      go_simp
      refine hKK.out _ _ ?_
      exact ⟨_, _, _, _, _, _, _, _, _, _, _, _, _, _, _, _, _, _, _, _, _, _, _, _, _, _, rfl, ⟨h.bel, fun _ => rfl, h.f1, h.f2, h.f3, h.f4, h.f5, h.f6, h.f7, h.f8, h.f9, h.f10, h.f11, h.f12, h.f13, h.f14, h.f15, h.f16, h.f17, h.f18, h.f19, h.f20, h.f21, h.f22, h.f23, h.f24, h.f25, h.f26⟩⟩
    · clear hdep
      refine wpOp_step rfl (fun K' hKK => ?_)
      replace hKK := hide hKK
      go_simp
      refine hKK.out _ _ ?_
      exact ⟨_, _, _, _, _, _, _, _, _, _, _, _, _, _, _, _, _, _, _, _, _, _, _, _, _, _, rfl, ⟨h.bel, h.f0, fun _ => rfl, h.f2, h.f3, h.f4, h.f5, h.f6, h.f7, h.f8, h.f9, h.f10, h.f11, h.f12, h.f13, h.f14, h.f15, h.f16, h.f17, h.f18, h.f19, h.f20, h.f21, h.f22, h.f23, h.f24, h.f25, h.f26⟩⟩
    · have l1 : L 1 = true := hdep _ rfl ⟨1, .data⟩ (by simp) (by rfl)
      obtain rfl := h.f1 l1
      clear hdep
      refine wpOp_step rfl (fun K' hKK => ?_)
      replace hKK := hide hKK
      go_simp
      refine hKK.out _ _ ?_
      exact ⟨_, _, _, _, _, _, _, _, _, _, _, _, _, _, _, _, _, _, _, _, _, _, _, _, _, _, rfl, ⟨h.bel, h.f0, h.f1, fun _ => rfl, h.f3, h.f4, h.f5, h.f6, h.f7, h.f8, h.f9, h.f10, h.f11, h.f12, h.f13, h.f14, h.f15, h.f16, h.f17, h.f18, h.f19, h.f20, h.f21, h.f22, h.f23, h.f24, h.f25, h.f26⟩⟩
    · have l0 : L 0 = true := hdep _ rfl ⟨0, .data⟩ (by simp) (by rfl)
      have l2 : L 2 = true := hdep _ rfl ⟨2, .data⟩ (by simp) (by rfl)
      obtain rfl := h.f0 l0
      obtain rfl := h.f2 l2
      clear hdep
      refine wpOp_step rfl (fun K' hKK => ?_)
      replace hKK := hide hKK
      go_simp
      refine hKK.out _ _ ?_
      exact ⟨_, _, _, _, _, _, _, _, _, _, _, _, _, _, _, _, _, _, _, _, _, _, _, _, _, _, rfl, ⟨h.bel, h.f0, h.f1, h.f2, fun _ => rfl, h.f4, h.f5, h.f6, h.f7, h.f8, h.f9, h.f10, h.f11, h.f12, h.f13, h.f14, h.f15, h.f16, h.f17, h.f18, h.f19, h.f20, h.f21, h.f22, h.f23, h.f24, h.f25, h.f26⟩⟩
    · clear hdep
      refine wpOp_step rfl (fun K' hKK => ?_)
      replace hKK := hide hKK
      go_simp
      refine hKK.out _ _ ?_
      exact ⟨_, _, _, _, _, _, _, _, _, _, _, _, _, _, _, _, _, _, _, _, _, _, _, _, _, _, rfl, ⟨h.bel, h.f0, h.f1, h.f2, h.f3, fun _ => rfl, h.f5, h.f6, h.f7, h.f8, h.f9, h.f10, h.f11, h.f12, h.f13, h.f14, h.f15, h.f16, h.f17, h.f18, h.f19, h.f20, h.f21, h.f22, h.f23, h.f24, h.f25, h.f26⟩⟩
    · clear hdep
      refine wpOp_step rfl (fun K' hKK => ?_)
      replace hKK := hide hKK
      go_simp
      refine hKK.out _ _ ?_
      exact ⟨_, _, _, _, _, _, _, _, _, _, _, _, _, _, _, _, _, _, _, _, _, _, _, _, _, _, rfl, ⟨h.bel, h.f0, h.f1, h.f2, h.f3, h.f4, fun _ => rfl, h.f6, h.f7, h.f8, h.f9, h.f10, h.f11, h.f12, h.f13, h.f14, h.f15, h.f16, h.f17, h.f18, h.f19, h.f20, h.f21, h.f22, h.f23, h.f24, h.f25, h.f26⟩⟩
    · have l5 : L 5 = true := hdep _ rfl ⟨5, .data⟩ (by simp) (by rfl)
      obtain rfl := h.f5 l5
      clear hdep
      refine wpOp_step rfl (fun K' hKK => ?_)
      replace hKK := hide hKK
      go_simp
      refine hKK.out _ _ ?_
      exact ⟨_, _, _, _, _, _, _, _, _, _, _, _, _, _, _, _, _, _, _, _, _, _, _, _, _, _, rfl, ⟨h.bel, h.f0, h.f1, h.f2, h.f3, h.f4, h.f5, fun _ => rfl, h.f7, h.f8, h.f9, h.f10, h.f11, h.f12, h.f13, h.f14, h.f15, h.f16, h.f17, h.f18, h.f19, h.f20, h.f21, h.f22, h.f23, h.f24, h.f25, h.f26⟩⟩
    · have l6 : L 6 = true := hdep _ rfl ⟨6, .data⟩ (by simp) (by rfl)
      obtain rfl := h.f6 l6
      clear hdep
      refine wpOp_step rfl (fun K' hKK => ?_)
      replace hKK := hide hKK
      go_simp
      refine hKK.out _ _ ?_
      exact ⟨_, _, _, _, _, _, _, _, _, _, _, _, _, _, _, _, _, _, _, _, _, _, _, _, _, _, rfl, ⟨h.bel, h.f0, h.f1, h.f2, h.f3, h.f4, h.f5, h.f6, fun _ => congrArg (Value.int .i64) ((IntWalk.i64_left _).trans e1), h.f8, h.f9, h.f10, h.f11, h.f12, h.f13, h.f14, h.f15, h.f16, h.f17, h.f18, h.f19, h.f20, h.f21, h.f22, h.f23, h.f24, h.f25, h.f26⟩⟩
    · clear hdep
      refine wpOp_step rfl (fun K' hKK => ?_)
      replace hKK := hide hKK
      go_simp
      refine hKK.out _ _ ?_
      exact ⟨_, _, _, _, _, _, _, _, _, _, _, _, _, _, _, _, _, _, _, _, _, _, _, _, _, _, rfl, ⟨h.bel, h.f0, h.f1, h.f2, h.f3, h.f4, h.f5, h.f6, h.f7, fun _ => rfl, h.f9, h.f10, h.f11, h.f12, h.f13, h.f14, h.f15, h.f16, h.f17, h.f18, h.f19, h.f20, h.f21, h.f22, h.f23, h.f24, h.f25, h.f26⟩⟩
    · have l8 : L 8 = true := hdep _ rfl ⟨8, .data⟩ (by simp) (by rfl)
      obtain rfl := h.f8 l8
      clear hdep
      refine wpOp_step rfl (fun K' hKK => ?_)
      replace hKK := hide hKK
      go_simp
      refine hKK.out _ _ ?_
      exact ⟨_, _, _, _, _, _, _, _, _, _, _, _, _, _, _, _, _, _, _, _, _, _, _, _, _, _, rfl, ⟨h.bel, h.f0, h.f1, h.f2, h.f3, h.f4, h.f5, h.f6, h.f7, h.f8, fun _ => rfl, h.f10, h.f11, h.f12, h.f13, h.f14, h.f15, h.f16, h.f17, h.f18, h.f19, h.f20, h.f21, h.f22, h.f23, h.f24, h.f25, h.f26⟩⟩
    · have l4 : L 4 = true := hdep _ rfl ⟨4, .data⟩ (by simp) (by rfl)
      have l7 : L 7 = true := hdep _ rfl ⟨7, .data⟩ (by simp) (by rfl)
      have l9 : L 9 = true := hdep _ rfl ⟨9, .data⟩ (by simp) (by rfl)
      obtain rfl := h.f4 l4
      obtain rfl := h.f7 l7
      obtain rfl := h.f9 l9
      clear hdep
      refine wpOp_step rfl (fun K' hKK => ?_)
      replace hKK := hide hKK
      go_simp
      refine hKK.out _ _ ?_
      exact ⟨_, _, _, _, _, _, _, _, _, _, _, _, _, _, _, _, _, _, _, _, _, _, _, _, _, _, rfl, ⟨h.bel, h.f0, h.f1, h.f2, h.f3, h.f4, h.f5, h.f6, h.f7, h.f8, h.f9, fun _ => rfl, h.f11, h.f12, h.f13, h.f14, h.f15, h.f16, h.f17, h.f18, h.f19, h.f20, h.f21, h.f22, h.f23, h.f24, h.f25, h.f26⟩⟩
    · have l3 : L 3 = true := hdep _ rfl ⟨3, .data⟩ (by simp) (by rfl)
      have l10 : L 10 = true := hdep _ rfl ⟨10, .data⟩ (by simp) (by rfl)
      obtain rfl := h.f3 l3
      obtain rfl := h.f10 l10
      clear hdep
      refine wpOp_step rfl (fun K' hKK => ?_)
      replace hKK := hide hKK
      go_simp
      refine hKK.out _ _ ?_
      exact ⟨_, _, _, _, _, _, _, _, _, _, _, _, _, _, _, _, _, _, _, _, _, _, _, _, _, _, rfl, ⟨h.bel, h.f0, h.f1, h.f2, h.f3, h.f4, h.f5, h.f6, h.f7, h.f8, h.f9, h.f10, fun _ => rfl, h.f12, h.f13, h.f14, h.f15, h.f16, h.f17, h.f18, h.f19, h.f20, h.f21, h.f22, h.f23, h.f24, h.f25, h.f26⟩⟩
    · clear hdep
      refine wpOp_step rfl (fun K' hKK => ?_)
      replace hKK := hide hKK
      go_simp
      refine hKK.out _ _ ?_
      exact ⟨_, _, _, _, _, _, _, _, _, _, _, _, _, _, _, _, _, _, _, _, _, _, _, _, _, _, rfl, ⟨h.bel, h.f0, h.f1, h.f2, h.f3, h.f4, h.f5, h.f6, h.f7, h.f8, h.f9, h.f10, h.f11, fun _ => rfl, h.f13, h.f14, h.f15, h.f16, h.f17, h.f18, h.f19, h.f20, h.f21, h.f22, h.f23, h.f24, h.f25, h.f26⟩⟩
    · clear hdep
      refine wpOp_step rfl (fun K' hKK => ?_)
      replace hKK := hide hKK
      go_simp
      refine hKK.out _ _ ?_
      exact ⟨_, _, _, _, _, _, _, _, _, _, _, _, _, _, _, _, _, _, _, _, _, _, _, _, _, _, rfl, ⟨h.bel, h.f0, h.f1, h.f2, h.f3, h.f4, h.f5, h.f6, h.f7, h.f8, h.f9, h.f10, h.f11, h.f12, fun _ => rfl, h.f14, h.f15, h.f16, h.f17, h.f18, h.f19, h.f20, h.f21, h.f22, h.f23, h.f24, h.f25, h.f26⟩⟩
    · have l13 : L 13 = true := hdep _ rfl ⟨13, .data⟩ (by simp) (by rfl)
      obtain rfl := h.f13 l13
      clear hdep
      refine wpOp_step rfl (fun K' hKK => ?_)
      replace hKK := hide hKK
      go_simp
      refine hKK.out _ _ ?_
      exact ⟨_, _, _, _, _, _, _, _, _, _, _, _, _, _, _, _, _, _, _, _, _, _, _, _, _, _, rfl, ⟨h.bel, h.f0, h.f1, h.f2, h.f3, h.f4, h.f5, h.f6, h.f7, h.f8, h.f9, h.f10, h.f11, h.f12, h.f13, fun _ => rfl, h.f15, h.f16, h.f17, h.f18, h.f19, h.f20, h.f21, h.f22, h.f23, h.f24, h.f25, h.f26⟩⟩
    · have l14 : L 14 = true := hdep _ rfl ⟨14, .data⟩ (by simp) (by rfl)
      obtain rfl := h.f14 l14
      clear hdep
      refine wpOp_step rfl (fun K' hKK => ?_)
      replace hKK := hide hKK
      go_simp
      refine hKK.out _ _ ?_
      exact ⟨_, _, _, _, _, _, _, _, _, _, _, _, _, _, _, _, _, _, _, _, _, _, _, _, _, _, rfl, ⟨h.bel, h.f0, h.f1, h.f2, h.f3, h.f4, h.f5, h.f6, h.f7, h.f8, h.f9, h.f10, h.f11, h.f12, h.f13, h.f14, fun _ => congrArg (Value.int .i64) ((IntWalk.i64_left _).trans e2), h.f16, h.f17, h.f18, h.f19, h.f20, h.f21, h.f22, h.f23, h.f24, h.f25, h.f26⟩⟩
    · have l12 : L 12 = true := hdep _ rfl ⟨12, .data⟩ (by simp) (by rfl)
      have l15 : L 15 = true := hdep _ rfl ⟨15, .data⟩ (by simp) (by rfl)
      obtain rfl := h.f12 l12
      obtain rfl := h.f15 l15
      clear hdep
      refine wpOp_step rfl (fun K' hKK => ?_)
      replace hKK := hide hKK
      go_simp
      refine hKK.out _ _ ?_
      exact ⟨_, _, _, _, _, _, _, _, _, _, _, _, _, _, _, _, _, _, _, _, _, _, _, _, _, _, rfl, ⟨h.bel, h.f0, h.f1, h.f2, h.f3, h.f4, h.f5, h.f6, h.f7, h.f8, h.f9, h.f10, h.f11, h.f12, h.f13, h.f14, h.f15, fun _ => rfl, h.f17, h.f18, h.f19, h.f20, h.f21, h.f22, h.f23, h.f24, h.f25, h.f26⟩⟩
    · have l11 : L 11 = true := hdep _ rfl ⟨11, .data⟩ (by simp) (by rfl)
      have l16 : L 16 = true := hdep _ rfl ⟨16, .data⟩ (by simp) (by rfl)
      obtain rfl := h.f11 l11
      obtain rfl := h.f16 l16
      clear hdep
      refine wpOp_step rfl (fun K' hKK => ?_)
      replace hKK := hide hKK
      go_simp
      refine hKK.out _ _ ?_
      exact ⟨_, _, _, _, _, _, _, _, _, _, _, _, _, _, _, _, _, _, _, _, _, _, _, _, _, _, rfl, ⟨h.bel, h.f0, h.f1, h.f2, h.f3, h.f4, h.f5, h.f6, h.f7, h.f8, h.f9, h.f10, h.f11, h.f12, h.f13, h.f14, h.f15, h.f16, fun _ => rfl, h.f18, h.f19, h.f20, h.f21, h.f22, h.f23, h.f24, h.f25, h.f26⟩⟩
    · have l17 : L 17 = true := hdep _ rfl ⟨17, .data⟩ (by simp) (by rfl)
      obtain rfl := h.f17 l17
      have n19 : L 19 = false := no_t (fun q => (h.f19 q).1) hLi
      have n20 : L 20 = false := no_t (fun q => (h.f20 q).1) n19
      have n21 : L 21 = false := no_t (fun q => (h.f21 q).1) n19
      have n22 : L 22 = false := no_t (fun q => (h.f22 q).1) n19
      have n24 : L 24 = false := no_t (fun q => (h.f24 q).1) n20
      clear hdep
      refine wpOp_step rfl (fun K' hKK => ?_)
      replace hKK := hide hKK
      go_simp
      go_wp2_with (refine (HP.out _ h.bel).mono ?_; rintro e w5 hq5; have hb5 := hq5.below; obtain ⟨v5, rfl⟩ := hq5.ret)
      refine hKK.out _ _ ?_
      exact ⟨_, _, _, _, _, _, _, _, _, _, _, _, _, _, _, _, _, _, _, _, _, _, _, _, _, _, rfl, ⟨next h.bel hb5, h.f0, h.f1, h.f2, h.f3, h.f4, h.f5, h.f6, h.f7, h.f8, h.f9, h.f10, h.f11, h.f12, h.f13, h.f14, h.f15, h.f16, h.f17, fun _ => hq5.t (fun X hX => by cases l23 : L 23 with | false => (rw [show (if (lset L 18) 23 = true then pU x9 else none) = none from by rw [show (lset L 18) 23 = L 23 from rfl, l23]; rfl] at hX; cases hX) | true => (obtain ⟨U, e, _, hlt, _⟩ := h.f23 l23; subst e; rw [show (if (lset L 18) 23 = true then pU (.pointer (some ⟨U, 0, none⟩)) else none) = some U from by rw [show (lset L 18) 23 = L 23 from rfl, l23]; rfl] at hX; cases hX; exact hlt)), fun q => absurd (show L 19 = true from q) (by rw [n19]; decide), fun q => absurd (show L 20 = true from q) (by rw [n20]; decide), fun q => absurd (show L 21 = true from q) (by rw [n21]; decide), fun q => absurd (show L 22 = true from q) (by rw [n22]; decide), fun q => by obtain ⟨U, e, h1, h2, h3⟩ := h.f23 q; exact ⟨U, e, h1, Nat.lt_of_lt_of_le h2 hb5.size, fun _ => (h3 n24).keep hb5⟩, fun q => absurd (show L 24 = true from q) (by rw [n24]; decide), h.f25, h.f26⟩⟩
    · have l18 : L 18 = true := hdep _ rfl ⟨18, .data⟩ (by simp) (by rfl)
      obtain ⟨nd, a, len, cap, q, er, u, m, rfl, hI, hm, hn⟩ := (h.f18 l18).ex
      clear hdep
      refine wpOp_step rfl (fun K' hKK => ?_)
      replace hKK := hide hKK
      go_simp
      refine hKK.out _ _ ?_
      exact ⟨_, _, _, _, _, _, _, _, _, _, _, _, _, _, _, _, _, _, _, _, _, _, _, _, _, _, rfl, ⟨h.bel, h.f0, h.f1, h.f2, h.f3, h.f4, h.f5, h.f6, h.f7, h.f8, h.f9, h.f10, h.f11, h.f12, h.f13, h.f14, h.f15, h.f16, h.f17, h.f18, fun _ => ⟨l18, rfl⟩, fun q => ⟨rfl, (h.f20 q).2⟩, fun q => ⟨rfl, (h.f21 q).2⟩, fun q => ⟨rfl, (h.f22 q).2⟩, h.f23, h.f24, h.f25, h.f26⟩⟩
    · have l19 : L 19 = true := hdep _ rfl ⟨19, .data⟩ (by simp) (by rfl)
      obtain ⟨l18, rfl⟩ := h.f19 l19
      obtain ⟨nd, a, len, cap, q, er, u, m, rfl, hI, hm, hn⟩ := (h.f18 l18).ex
      have n24 : L 24 = false := no_t (fun q => (h.f24 q).1) hLi
      clear hdep
      refine wpOp_step rfl (fun K' hKK => ?_)
      replace hKK := hide hKK
      go_simp
      refine hKK.out _ _ ?_
      exact ⟨_, _, _, _, _, _, _, _, _, _, _, _, _, _, _, _, _, _, _, _, _, _, _, _, _, _, rfl, ⟨h.bel, h.f0, h.f1, h.f2, h.f3, h.f4, h.f5, h.f6, h.f7, h.f8, h.f9, h.f10, h.f11, h.f12, h.f13, h.f14, h.f15, h.f16, h.f17, h.f18, h.f19, fun _ => ⟨l19, fun v q e hv => (tup3 hv).1⟩, h.f21, h.f22, h.f23, fun q => absurd (show L 24 = true from q) (by rw [n24]; decide), h.f25, h.f26⟩⟩
    · have l19 : L 19 = true := hdep _ rfl ⟨19, .data⟩ (by simp) (by rfl)
      obtain ⟨l18, rfl⟩ := h.f19 l19
      obtain ⟨nd, a, len, cap, q, er, u, m, rfl, hI, hm, hn⟩ := (h.f18 l18).ex
      have n25 : L 25 = false := no_t (fun q => (h.f25 q).1) hLi
      clear hdep
      refine wpOp_step rfl (fun K' hKK => ?_)
      replace hKK := hide hKK
      go_simp
      refine hKK.out _ _ ?_
      exact ⟨_, _, _, _, _, _, _, _, _, _, _, _, _, _, _, _, _, _, _, _, _, _, _, _, _, _, rfl, ⟨h.bel, h.f0, h.f1, h.f2, h.f3, h.f4, h.f5, h.f6, h.f7, h.f8, h.f9, h.f10, h.f11, h.f12, h.f13, h.f14, h.f15, h.f16, h.f17, h.f18, h.f19, h.f20, fun _ => ⟨l19, fun v q e hv => (tup3 hv).2.1⟩, h.f22, h.f23, h.f24, fun q => absurd (show L 25 = true from q) (by rw [n25]; decide), h.f26⟩⟩
    · have l19 : L 19 = true := hdep _ rfl ⟨19, .data⟩ (by simp) (by rfl)
      obtain ⟨l18, rfl⟩ := h.f19 l19
      obtain ⟨nd, a, len, cap, q, er, u, m, rfl, hI, hm, hn⟩ := (h.f18 l18).ex
      have n26 : L 26 = false := no_t (fun q => (h.f26 q).1) hLi
      clear hdep
      refine wpOp_step rfl (fun K' hKK => ?_)
      replace hKK := hide hKK
      go_simp
      refine hKK.out _ _ ?_
      exact ⟨_, _, _, _, _, _, _, _, _, _, _, _, _, _, _, _, _, _, _, _, _, _, _, _, _, _, rfl, ⟨h.bel, h.f0, h.f1, h.f2, h.f3, h.f4, h.f5, h.f6, h.f7, h.f8, h.f9, h.f10, h.f11, h.f12, h.f13, h.f14, h.f15, h.f16, h.f17, h.f18, h.f19, h.f20, h.f21, fun _ => ⟨l19, fun v q e hv => (tup3 hv).2.2⟩, h.f23, h.f24, h.f25, fun q => absurd (show L 26 = true from q) (by rw [n26]; decide)⟩⟩
    · have n24 : L 24 = false := no_t (fun q => (h.f24 q).2.1) hLi
      clear hdep
      refine wpOp_step rfl (fun K' hKK => ?_)
      replace hKK := hide hKK
      go_simp
      refine hKK.out _ _ ?_
      exact ⟨_, _, _, _, _, _, _, _, _, _, _, _, _, _, _, _, _, _, _, _, _, _, _, _, _, _, rfl, ⟨step h.bel _, h.f0, h.f1, h.f2, h.f3, h.f4, h.f5, h.f6, h.f7, h.f8, h.f9, h.f10, h.f11, h.f12, h.f13, h.f14, h.f15, h.f16, h.f17, fun q => by have := (h.f18 q).alloc z14Ob; exact this, h.f19, h.f20, h.f21, h.f22, fun _ => ⟨_, rfl, h.bel.size, by simp, fun _ => Blk.new _ _ _⟩, fun q => absurd (show L 24 = true from q) (by rw [n24]; decide), h.f25, h.f26⟩⟩
    · have l23 : L 23 = true := hdep _ rfl ⟨23, .data⟩ (by simp) (by rfl)
      have l20 : L 20 = true := hdep _ rfl ⟨20, .data⟩ (by simp) (by rfl)
      obtain ⟨l19, h20⟩ := h.f20 l20
      obtain ⟨l18, _⟩ := h.f19 l19
      obtain ⟨U, rfl, hU1, hU2, hU3⟩ := h.f23 l23
      have hT := h.f18 l18
      obtain ⟨nd, a, len, cap, q, er, u, m, e53, hI, hm, hn⟩ := hT.ex
      obtain rfl := h20 _ _ _ e53
      rw [show (if L 23 = true then pU (.pointer (some ⟨U, 0, none⟩)) else none) = some U from by rw [l23]; rfl] at hT
      clear hdep
      refine wpOp_step rfl (fun K' hKK => ?_)
      replace hKK := hide hKK
      split
      · refine wp_store_row 30 _ _ rfl U (exC nd (.slice a len cap)) rfl rfl 30 _ (hU3 hLi) (exC_info _ _) rfl (exC_one _ _ _ _) ?_
        exact hKK.out _ _ ⟨_, _, _, _, _, _, _, _, _, _, _, _, _, _, _, _, _, _, _, _, _, _, _, _, _, _, rfl, ⟨below_setRow h.bel hU1 _, h.f0, h.f1, h.f2, h.f3, h.f4, h.f5, h.f6, h.f7, h.f8, h.f9, h.f10, h.f11, h.f12, h.f13, h.f14, h.f15, h.f16, h.f17, fun _ => by have := hT.put (exC nd (.slice a len cap)); rw [show (if (lset L 24) 23 = true then pU (.pointer (some ⟨U, 0, none⟩)) else none) = some U from by rw [show (lset L 24) 23 = L 23 from rfl, l23]; rfl]; exact this, h.f19, h.f20, h.f21, h.f22, fun _ => ⟨U, rfl, hU1, by rw [size_setRow]; exact hU2, fun q => absurd (show true = false from q) (by decide)⟩, fun _ => ⟨l20, l23, fun U' cs e1 e2 => by have e3 := (Addr.mk.inj (Option.some.inj (Value.pointer.inj e1))).1; subst e3; have e4 := Value.agg.inj e2; subst e4; exact Blk.setRow (hU3 hLi)⟩, h.f25, h.f26⟩⟩
      · rename_i hw
        exact absurd rfl hw
    · have l21 : L 21 = true := hdep _ rfl ⟨21, .data⟩ (by simp) (by rfl)
      obtain ⟨l19, h21⟩ := h.f21 l21
      obtain ⟨l18, rfl⟩ := h.f19 l19
      obtain ⟨nd, a, len, cap, q, er, u, m, rfl, hI, hm, hn⟩ := (h.f18 l18).ex
      obtain rfl := h21 _ _ _ rfl
      clear hdep
      refine wpOp_step rfl (fun K' hKK => ?_)
      replace hKK := hide hKK
      go_simp
      refine hKK.out _ _ ?_
      exact ⟨_, _, _, _, _, _, _, _, _, _, _, _, _, _, _, _, _, _, _, _, _, _, _, _, _, _, rfl, ⟨h.bel, h.f0, h.f1, h.f2, h.f3, h.f4, h.f5, h.f6, h.f7, h.f8, h.f9, h.f10, h.f11, h.f12, h.f13, h.f14, h.f15, h.f16, h.f17, h.f18, h.f19, h.f20, h.f21, h.f22, h.f23, h.f24, fun _ => ⟨l21, rfl⟩, h.f26⟩⟩
    · have l22 : L 22 = true := hdep _ rfl ⟨22, .data⟩ (by simp) (by rfl)
      obtain ⟨l19, h22⟩ := h.f22 l22
      obtain ⟨l18, rfl⟩ := h.f19 l19
      obtain ⟨nd, a, len, cap, q, er, u, m, rfl, hI, hm, hn⟩ := (h.f18 l18).ex
      obtain rfl := h22 _ _ _ rfl
      clear hdep
      refine wpOp_step rfl (fun K' hKK => ?_)
      replace hKK := hide hKK
      go_simp
      refine hKK.out _ _ ?_
      exact ⟨_, _, _, _, _, _, _, _, _, _, _, _, _, _, _, _, _, _, _, _, _, _, _, _, _, _, rfl, ⟨h.bel, h.f0, h.f1, h.f2, h.f3, h.f4, h.f5, h.f6, h.f7, h.f8, h.f9, h.f10, h.f11, h.f12, h.f13, h.f14, h.f15, h.f16, h.f17, h.f18, h.f19, h.f20, h.f21, h.f22, h.f23, h.f24, h.f25, fun _ => ⟨l22, rfl⟩⟩⟩
  intro L a₁ w₁ hall hI
  obtain ⟨x9, x10, x11, x34, x35, x36, x37, x38, x39, x40, x41, x42, x43, x44, x45, x46, x47, x48, x49, x50, x51, x52, x53, x54, x55, x56, ha, h⟩ := hI
  subst ha
  have l (j : Nat) (hj : j < 27) : L j = true := hall j hj
  obtain ⟨nd, a, len, cap, q, er, u, m, rfl, hI, hm, hn⟩ := (h.f18 (l 18 (by decide))).ex
  obtain ⟨_, rfl⟩ := h.f25 (l 25 (by decide))
  obtain ⟨_, rfl⟩ := h.f26 (l 26 (by decide))
  obtain rfl := (h.f20 (l 20 (by decide))).2 _ _ _ rfl
  obtain rfl := (h.f21 (l 21 (by decide))).2 _ _ _ rfl
  obtain rfl := (h.f22 (l 22 (by decide))).2 _ _ _ rfl
  obtain ⟨U, rfl, _, _, _⟩ := h.f23 (l 23 (by decide))
  exact hQ.out _ _ _ _ _ _ _ _ _ _ _ _ _ _ _ _ _ _ _ _ _ _ _ _ U nd a len cap q er u h.bel ((h.f24 (l 24 (by decide))).2.2 _ _ rfl rfl) (hI.wide (fun k hk => (hm k hk).1)) hn
end Go.Proofs.YtbmnoiddklafkaaGreatDoor.T9
