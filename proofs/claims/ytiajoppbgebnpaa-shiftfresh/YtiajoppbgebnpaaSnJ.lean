/- ShiftFresh's drawn statement 'x, _, want, _ := call(..)': what is kept whatever comes first: the two variables' blocks, and what the call left. No Go in sight. ShiftFresh's drawn call, by itself. Proved of the Go text. ShiftFresh's last drawn statement of a round, by itself. Proved of the Go text. -/
import Derived.Test.YtiajoppbgebnpaaCfJ
import Derived.Test.YtiajoppbgebnpaaRgInv
import Derived.Test.YtiajoppbgebnpaaTwJ
namespace Go.Proofs.Ytiajoppbgebnpaa
open Go.RowKit Go.Sort
set_option linter.unusedVariables false

abbrev z14 : Array Value := exC nd0 (.slice none 0 0)
/-- What is kept: P is what the call leaves, from the world ahead of it to the one behind it. -/
structure S9 (P : World → World → Value → Value → Prop) (base : World) (L : Nat → Bool) (w : World) (X5 X7 : Nat) (un : Nd) (s1 s2 : Value) (wp w5 : World) : Prop where
  low : Below base.heap.size base w
  o6 : L 6 = true ∨ L 7 = true ∨ L 9 = true → L 5 = true
  o13 : L 13 = true → L 5 = true ∧ L 11 = true
  o15 : L 15 = true → L 5 = true ∧ L 12 = true
  cl : L 5 = true → Below base.heap.size base wp ∧ P wp w5 s1 s2 ∧ Below wp.heap.size wp w5
  cc : L 5 = true → Chg (fun k => (L 11 = true ∧ k = X5) ∨ (L 12 = true ∧ k = X7)) w5 w
  c5 : L 5 = true → L 11 = true → X5 < wp.heap.size ∨ w5.heap.size ≤ X5
  c7 : L 5 = true → L 12 = true → X7 < wp.heap.size ∨ w5.heap.size ≤ X7
  b5 : L 11 = true → base.heap.size ≤ X5 ∧ X5 < w.heap.size ∧ Blk w X5 (if L 13 = true then exC un s1 else z14) 37
  b7 : L 12 = true → base.heap.size ≤ X7 ∧ X7 < w.heap.size ∧ Blk w X7 (if L 15 = true then exC un s2 else z14) 37
  ne : L 11 = true → L 12 = true → X5 ≠ X7
theorem of6 {L : Nat → Bool} {i : Nat} (h : L 6 = true ∨ L 7 = true ∨ L 9 = true → L 5 = true) (hq : i = 6 ∨ i = 7 ∨ i = 9 → L 5 = true) (q : (if 6 = i then true else L 6) = true ∨ (if 7 = i then true else L 7) = true ∨ (if 9 = i then true else L 9) = true) : L 5 = true := by
  by_cases h6 : 6 = i
  · exact hq (.inl h6.symm)
  by_cases h7 : 7 = i
  · exact hq (.inr (.inl h7.symm))
  by_cases h9 : 9 = i
  · exact hq (.inr (.inr h9.symm))
  rw [if_neg h6, if_neg h7, if_neg h9] at q
  exact h q
section
variable {P : World → World → Value → Value → Prop} {base w : World} {L : Nat → Bool} {X5 X7 : Nat} {un : Nd} {s1 s2 : Value} {wp w5 : World}
theorem S9.same (h : S9 P base L w X5 X7 un s1 s2 wp w5) (i : Nat) (hi : i ≠ 5 ∧ i ≠ 11 ∧ i ≠ 12 ∧ i ≠ 13 ∧ i ≠ 15) (hq : i = 6 ∨ i = 7 ∨ i = 9 → L 5 = true) : S9 P base (fun j => if j = i then true else L j) w X5 X7 un s1 s2 wp w5 := by
  obtain ⟨a, b, c, d, e⟩ := hi
  have e5 : (if 5 = i then true else L 5) = L 5 := if_neg (fun h => a h.symm)
  have e11 : (if 11 = i then true else L 11) = L 11 := if_neg (fun h => b h.symm)
  have e12 : (if 12 = i then true else L 12) = L 12 := if_neg (fun h => c h.symm)
  have e13 : (if 13 = i then true else L 13) = L 13 := if_neg (fun h => d h.symm)
  have e15 : (if 15 = i then true else L 15) = L 15 := if_neg (fun h => e h.symm)
  exact ⟨h.low, (fun q => by rw [e5]; exact of6 h.o6 hq q), by rw [e13, e5, e11]; exact h.o13, by rw [e15, e5, e12]; exact h.o15, by rw [e5]; exact h.cl, by rw [e5, e11, e12]; exact h.cc, by rw [e5, e11]; exact h.c5, by rw [e5, e12]; exact h.c7, by rw [e11, e13]; exact h.b5, by rw [e12, e15]; exact h.b7, by rw [e11, e12]; exact h.ne⟩
theorem S9.start (base w : World) (hb : Below base.heap.size base w) (L : Nat → Bool) (h : ∀ j, j < 17 → L j = false) : S9 P base L w 0 0 un s1 s2 w w :=
  have f : ∀ j, j < 17 → L j = true → False := fun j hj hq => by rw [h j hj] at hq; cases hq
  ⟨hb, (fun q => by rcases q with q | q | q; exact (f 6 (by decide) q).elim; exact (f 7 (by decide) q).elim; exact (f 9 (by decide) q).elim), fun q => (f 13 (by decide) q).elim, fun q => (f 15 (by decide) q).elim, fun q => (f 5 (by decide) q).elim, fun q => (f 5 (by decide) q).elim, fun q => (f 5 (by decide) q).elim, fun q => (f 5 (by decide) q).elim, fun q => (f 11 (by decide) q).elim, fun q => (f 12 (by decide) q).elim, fun q => (f 11 (by decide) q).elim⟩
theorem S9.call {s1' s2' : Value} {w' : World} (h : S9 P base L w X5 X7 un s1 s2 wp w5) (h5 : L 5 = false) (hb : Below w.heap.size w w') (hp : P w w' s1' s2') : S9 P base (fun j => if j = 5 then true else L j) w' X5 X7 un s1' s2' w w' := by
  have f13 : L 13 = false := by cases q : L 13 with | false => rfl | true => have := (h.o13 q).1; rw [h5] at this; cases this
  have f15 : L 15 = false := by cases q : L 15 with | false => rfl | true => have := (h.o15 q).1; rw [h5] at this; cases this
  refine ⟨next h.low hb, fun _ => rfl, fun q => ?_, fun q => ?_, fun _ => ⟨h.low, hp, hb⟩, fun _ => Chg.refl _ _, fun _ q => .inl (h.b5 q).2.1, fun _ q => .inl (h.b7 q).2.1, fun q => ?_, fun q => ?_, h.ne⟩
  · have q' : L 13 = true := q; rw [f13] at q'; cases q'
  · have q' : L 15 = true := q; rw [f15] at q'; cases q'
  · obtain ⟨a, b, c⟩ := h.b5 q
    refine ⟨a, Nat.lt_of_lt_of_le b hb.size, ?_⟩
    show Blk w' X5 (if L 13 = true then _ else _) _
    rw [if_neg (by rw [f13]; decide)] at c ⊢
    exact (hb.block X5 b).trans c
  · obtain ⟨a, b, c⟩ := h.b7 q
    refine ⟨a, Nat.lt_of_lt_of_le b hb.size, ?_⟩
    show Blk w' X7 (if L 15 = true then _ else _) _
    rw [if_neg (by rw [f15]; decide)] at c ⊢
    exact (hb.block X7 b).trans c
theorem S9.al5 (h : S9 P base L w X5 X7 un s1 s2 wp w5) (h11 : L 11 = false) : S9 P base (fun j => if j = 11 then true else L j) (w.alloc (.cells z14 37)) w.heap.size X7 un s1 s2 wp w5 := by
  have f13 : L 13 = false := by cases q : L 13 with | false => rfl | true => have := (h.o13 q).2; rw [h11] at this; cases this
  have hs : (w.alloc (.cells z14 37)).heap.size = w.heap.size + 1 := by simp
  have hst : Below w.heap.size w (w.alloc (.cells z14 37)) := step (Below.refl _ _) _
  refine ⟨step h.low _, h.o6, fun q => ?_, h.o15, h.cl, fun q => ?_, fun q _ => .inr (h.cc q).size, h.c7, fun _ => ?_, fun q => ?_, fun _ q => ?_⟩
  · have q' : L 13 = true := q; rw [f13] at q'; cases q'
  · refine ((h.cc q).wide (fun k hk => ?_)).trans (Chg.of_below hst)
    rcases hk with ⟨e, _⟩ | e
    · rw [h11] at e; cases e
    · exact .inr e
  · refine ⟨h.low.size, by omega, ?_⟩
    show Blk _ _ (if L 13 = true then _ else _) _
    rw [if_neg (by rw [f13]; decide)]
    exact Blk.new _ _ _
  · obtain ⟨a, b, c⟩ := h.b7 q
    exact ⟨a, by omega, (Below.heap_alloc w _ X7 b).trans c⟩
  · have := (h.b7 q).2.1; omega
theorem S9.al7 (h : S9 P base L w X5 X7 un s1 s2 wp w5) (h12 : L 12 = false) : S9 P base (fun j => if j = 12 then true else L j) (w.alloc (.cells z14 37)) X5 w.heap.size un s1 s2 wp w5 := by
  have f15 : L 15 = false := by cases q : L 15 with | false => rfl | true => have := (h.o15 q).2; rw [h12] at this; cases this
  have hs : (w.alloc (.cells z14 37)).heap.size = w.heap.size + 1 := by simp
  have hst : Below w.heap.size w (w.alloc (.cells z14 37)) := step (Below.refl _ _) _
  refine ⟨step h.low _, h.o6, h.o13, fun q => ?_, h.cl, fun q => ?_, h.c5, fun q _ => .inr (h.cc q).size, fun q => ?_, fun _ => ?_, fun q _ => ?_⟩
  · have q' : L 15 = true := q; rw [f15] at q'; cases q'
  · refine ((h.cc q).wide (fun k hk => ?_)).trans (Chg.of_below hst)
    rcases hk with e | ⟨e, _⟩
    · exact .inl e
    · rw [h12] at e; cases e
  · obtain ⟨a, b, c⟩ := h.b5 q
    exact ⟨a, by omega, (Below.heap_alloc w _ X5 b).trans c⟩
  · refine ⟨h.low.size, by omega, ?_⟩
    show Blk _ _ (if L 15 = true then _ else _) _
    rw [if_neg (by rw [f15]; decide)]
    exact Blk.new _ _ _
  · have := (h.b5 q).2.1; omega
theorem low_set9 {B : Nat} {base w : World} (h : Below B base w) {X : Nat} (hX : B ≤ X) (cs : Array Value) : Below B base (w.setRow X cs) := below_setRow h hX cs
theorem chg_row9 {w : World} {X : Nat} {cs : Array Value} {m : Nat → Prop} (hm : m X) : Chg m w (w.setRow X cs) := ⟨rfl, rfl, rfl, by rw [size_setRow]; exact Nat.le_refl _, fun k _ hk => setRow_other _ _ _ _ (fun e => hk (by rw [e]; exact hm))⟩
theorem S9.st5 (h : S9 P base L w X5 X7 un s1 s2 wp w5) (h5 : L 5 = true) (h11 : L 11 = true) (h13 : L 13 = false) : Blk w X5 z14 37 ∧ S9 P base (fun j => if j = 13 then true else L j) (w.setRow X5 (exC un s1)) X5 X7 un s1 s2 wp w5 := by
  obtain ⟨a, b, c⟩ := h.b5 h11
  rw [if_neg (by rw [h13]; decide)] at c
  refine ⟨c, ⟨low_set9 h.low a _, h.o6, fun _ => ⟨h5, h11⟩, h.o15, h.cl, fun q => (h.cc q).trans (chg_row9 (.inl ⟨h11, rfl⟩)), h.c5, h.c7, fun _ => ?_, fun q => ?_, h.ne⟩⟩
  · refine ⟨a, by rw [size_setRow]; exact b, ?_⟩
    exact setRow_heap _ _ _ _ _ _ c
  · obtain ⟨a', b', c'⟩ := h.b7 q
    exact ⟨a', by rw [size_setRow]; exact b', (setRow_other _ _ _ _ (fun e => h.ne h11 q e.symm)).trans c'⟩
theorem S9.st7 (h : S9 P base L w X5 X7 un s1 s2 wp w5) (h5 : L 5 = true) (h12 : L 12 = true) (h15 : L 15 = false) : Blk w X7 z14 37 ∧ S9 P base (fun j => if j = 15 then true else L j) (w.setRow X7 (exC un s2)) X5 X7 un s1 s2 wp w5 := by
  obtain ⟨a, b, c⟩ := h.b7 h12
  rw [if_neg (by rw [h15]; decide)] at c
  refine ⟨c, ⟨low_set9 h.low a _, h.o6, h.o13, fun _ => ⟨h5, h12⟩, h.cl, fun q => (h.cc q).trans (chg_row9 (.inr ⟨h12, rfl⟩)), h.c5, h.c7, fun q => ?_, fun _ => ?_, h.ne⟩⟩
  · obtain ⟨a', b', c'⟩ := h.b5 q
    exact ⟨a', by rw [size_setRow]; exact b', (setRow_other _ _ _ _ (fun e => h.ne q h12 e)).trans c'⟩
  · refine ⟨a, by rw [size_setRow]; exact b, ?_⟩
    exact setRow_heap _ _ _ _ _ _ c
end
end Go.Proofs.Ytiajoppbgebnpaa
namespace Go.Proofs.Ytiajoppbgebnpaa
open Go.RowKit Go.Sort
set_option linter.unusedVariables false

theorem lk {L : Nat → Bool} {j k : Nat} (h : (if j = k then true else L j) = true) (hn : j ≠ k) : L j = true := by rwa [if_neg hn] at h
def d112 : Code → Code
  | .seq a _ => a
  | .cond _ a _ => a
  | .block _ b => b
  | .loop b => b
  | c => c
def d212 : Code → Code
  | .seq _ b => b
  | .cond _ _ b => b
  | c => c
theorem step_loadW {ops : Array Oper} {o : Oper} {a : Act} {w : World} {Kn : Act → World → Prop} {Q : Exit → Act → World → Prop} {EE : Prop} (hw : Region.wanted o (yielded ops a.tmps) = true) (x : Operand) (ho : o.op = .load 37 x) (g : Nat)
    (hx : a.eval x = .pointer (some ⟨g, 0, none⟩)) (n : Nd) (s : Value) (hg : Blk w g (exC n s) 37) (h : Kn (a.put o.dst (exV n s)) w) : if Region.wanted o (yielded ops a.tmps) = true then Oper.wp Try.prog o a w Kn Q else EE := by
  rw [if_pos hw]
  exact wp_load_row 37 x ho g hx _ _ _ _ hg Try.underlying37 rfl (exC_info _ _) h
theorem step_loadM {ops : Array Oper} {o : Oper} {a : Act} {w : World} {Kn : Act → World → Prop} {Q : Exit → Act → World → Prop} {EE : Prop} (hw : Region.wanted o (yielded ops a.tmps) = true) (x : Operand) (ho : o.op = .load 37 x) (g off : Nat)
    (hx : a.eval x = .pointer (some ⟨g, off, none⟩)) (n : Nd) (s : Value) (hg : w.rangeAt g off (exC n s).toList) (h : Kn (a.put o.dst (exV n s)) w) : if Region.wanted o (yielded ops a.tmps) = true then Oper.wp Try.prog o a w Kn Q else EE := by
  rw [if_pos hw]
  refine wp_load_mid 37 x ho g off hx _ _ hg Try.underlying37 rfl (by rw [exC_len]; exact exC_info n s) ?_
  rw [Array.toArray_toList]; exact h
theorem opX_info (K M N : Int) (n : Nd) (s : Value) : (Try.prog.info? 39).map (·.size) = some 17 := by kernel_rfl
theorem step_loadO {ops : Array Oper} {o : Oper} {a : Act} {w : World} {Kn : Act → World → Prop} {Q : Exit → Act → World → Prop} {EE : Prop} (hw : Region.wanted o (yielded ops a.tmps) = true) (x : Operand) (ho : o.op = .load 39 x) (g off : Nat)
    (hx : a.eval x = .pointer (some ⟨g, off, none⟩)) (K M N : Int) (n : Nd) (s : Value) (hg : w.rangeAt g off (opX K M N n s).toList) (h : Kn (a.put o.dst (.agg (opX K M N n s))) w) : if Region.wanted o (yielded ops a.tmps) = true then Oper.wp Try.prog o a w Kn Q else EE := by
  rw [if_pos hw]
  refine wp_load_mid 39 x ho g off hx _ _ hg Try.underlying39 rfl (opX_info K M N n s) ?_
  rw [Array.toArray_toList]; exact h
def rf14 (c : Code) : Code := d112 (d112 (d112 (d212 (d112 (d112 (d212 (d112 (d212 (d212 (d112 (d112 (d212 (d112 (d112 (d212 (d112 (d212 (d212 (d212 (d212 (d212 c)))))))))))))))))))))
set_option maxHeartbeats 4000000 in
set_option maxRecDepth 100000 in
theorem sf14 {P : World → World → Value → Value → Prop} {w : World} {b o len cap k X4 : Nat} {K M N er : Int} {nd tn un : Nd} {sl ts : Value} (p0 : (k : Int) < (len : Int))
    (SS : Hid (∀ w', Below w.heap.size w w' → w'.rangeAt b (o + k * 17) (opX K M N nd sl).toList ∧ Blk w' X4 (exC tn ts) 37)) (HC : Hid (∀ w', Below w.heap.size w w' → Calls Try.prog 7 #[.agg (opX K M N nd sl), exV tn ts] w' fun e w'' => ∃ (ra : Option Addr) (rl rc : Nat) (qa : Option Addr) (ql qc : Nat), e = .returned (.tuple #[exV un (.slice ra rl rc), .int .i64 er, exV un (.slice qa ql qc), .int .i64 er]) ∧ P w' w'' (.slice ra rl rc) (.slice qa ql qc) ∧ Below w'.heap.size w' w''))
    {Q : Exit → Act → World → Prop} {u1 u2 u3 u4 u5 u8 u9 u10 u11 u12 u13 u14 u15 u16 u17 u18 u19 u20 u21 u22 u23 u24 u25 u26 u27 u28 u29 u30 u31 u32 u33 u34 u35 u36 u37 u38 u39 u40 u41 u42 u43 u44 u45 u46 u47 u48 u49 u50 u51 u52 u53 u54 u55 u56 u57 u58 u59 u60 u61 u62 u63 u64 u65 u66 u67 u68 u69 u70 u71 u72 u73 u74 u75 u76 u77 u78 u79 u80 u81 u82 u83 u84 u85 u86 u87 u88 u89 u90 u91 u92 u93 u94 u95 u96 u97 u98 : Value}
    (hQ : ∀ (X5 X7 : Nat) (ra : Option Addr) (rl rc : Nat) (qa : Option Addr) (ql qc : Nat) (wp w5 w' : World), Below w.heap.size w wp → P wp w5 (.slice ra rl rc) (.slice qa ql qc) → Below wp.heap.size wp w5 → Chg (fun k => k = X5 ∨ k = X7) w5 w' → (X5 < wp.heap.size ∨ w5.heap.size ≤ X5) → (X7 < wp.heap.size ∨ w5.heap.size ≤ X7) → w.heap.size ≤ X5 → w.heap.size ≤ X7 → X5 ≠ X7 → Below w.heap.size w w' → Blk w' X5 (exC un (.slice ra rl rc)) 37 → Blk w' X7 (exC un (.slice qa ql qc)) 37 → Q .normal ⟨#[.slice (some ⟨b, o, none⟩) len cap, u1, u2, u3, u4, u5, .int .i64 (k : Int), .pointer (some ⟨X4, 0, none⟩), u8, .pointer (some ⟨X5, 0, none⟩), .int .i64 er, .pointer (some ⟨X7, 0, none⟩), .int .i64 er, u13, u14, u15, u16, u17, u18, u19, u20, u21, u22, u23, u24, u25, u26, u27, u28, u29, u30, u31, u32, u33, u34, u35, u36, u37, u38, u39, u40, u41, u42, u43, u44, u45, u46, .tuple #[exV un (.slice ra rl rc), .int .i64 er, exV un (.slice qa ql qc), .int .i64 er], .slice (some ⟨b, o, none⟩) len cap, .int .i64 (k : Int), .pointer (some ⟨b, o + k * 17, none⟩), .agg (opX K M N nd sl), exV tn ts, .tuple #[exV un (.slice ra rl rc), .int .i64 er, exV un (.slice qa ql qc), .int .i64 er], exV un (.slice ra rl rc), .int .i64 er, exV un (.slice qa ql qc), .int .i64 er, u58, u59, u60, u61, u62, u63, u64, u65, u66, u67, u68, u69, u70, u71, u72, u73, u74, u75, u76, u77, u78, u79, u80, u81, u82, u83, u84, u85, u86, u87, u88, u89, u90, u91, u92, u93, u94, u95, u96, u97, u98], []⟩ w') :
    (rf14 (Try.f3.body.getD .skip)).wp Try.prog Q ⟨#[.slice (some ⟨b, o, none⟩) len cap, u1, u2, u3, u4, u5, .int .i64 (k : Int), .pointer (some ⟨X4, 0, none⟩), u8, u9, u10, u11, u12, u13, u14, u15, u16, u17, u18, u19, u20, u21, u22, u23, u24, u25, u26, u27, u28, u29, u30, u31, u32, u33, u34, u35, u36, u37, u38, u39, u40, u41, u42, u43, u44, u45, u46, u47, u48, u49, u50, u51, u52, u53, u54, u55, u56, u57, u58, u59, u60, u61, u62, u63, u64, u65, u66, u67, u68, u69, u70, u71, u72, u73, u74, u75, u76, u77, u78, u79, u80, u81, u82, u83, u84, u85, u86, u87, u88, u89, u90, u91, u92, u93, u94, u95, u96, u97, u98], []⟩ w := by
  dsimp only [Try.f3, Option.getD, rf14, d112, d212]
  refine region_inv (fun (L : Nat → Bool) (a₁ : Act) (w₁ : World) => ∃ (x48 x49 x50 x51 x52 x53 x47 x54 x55 x56 x57 x9 x11 x10 x12 : Value) (X5 X7 : Nat) (ra : Option Addr) (rl rc : Nat) (qa : Option Addr) (ql qc : Nat) (wp w5 : World), a₁ = ⟨#[.slice (some ⟨b, o, none⟩) len cap, u1, u2, u3, u4, u5, .int .i64 (k : Int), .pointer (some ⟨X4, 0, none⟩), u8, x9, x10, x11, x12, u13, u14, u15, u16, u17, u18, u19, u20, u21, u22, u23, u24, u25, u26, u27, u28, u29, u30, u31, u32, u33, u34, u35, u36, u37, u38, u39, u40, u41, u42, u43, u44, u45, u46, x47, x48, x49, x50, x51, x52, x53, x54, x55, x56, x57, u58, u59, u60, u61, u62, u63, u64, u65, u66, u67, u68, u69, u70, u71, u72, u73, u74, u75, u76, u77, u78, u79, u80, u81, u82, u83, u84, u85, u86, u87, u88, u89, u90, u91, u92, u93, u94, u95, u96, u97, u98], []⟩ ∧ S9 P w L w₁ X5 X7 un (.slice ra rl rc) (.slice qa ql qc) wp w5 ∧ (L 0 = true → x48 = .slice (some ⟨b, o, none⟩) len cap) ∧ (L 1 = true → x49 = .int .i64 (k : Int)) ∧ (L 2 = true → x50 = .pointer (some ⟨b, o + k * 17, none⟩)) ∧ (L 3 = true → x51 = .agg (opX K M N nd sl)) ∧ (L 4 = true → x52 = exV tn ts) ∧ (L 5 = true → x53 = .tuple #[exV un (.slice ra rl rc), .int .i64 er, exV un (.slice qa ql qc), .int .i64 er]) ∧ (L 6 = true → x47 = .tuple #[exV un (.slice ra rl rc), .int .i64 er, exV un (.slice qa ql qc), .int .i64 er]) ∧ (L 7 = true → x54 = exV un (.slice ra rl rc)) ∧ (L 8 = true → x55 = .int .i64 er) ∧ (L 9 = true → x56 = exV un (.slice qa ql qc)) ∧ (L 10 = true → x57 = .int .i64 er) ∧ (L 11 = true → x9 = .pointer (some ⟨X5, 0, none⟩)) ∧ (L 12 = true → x11 = .pointer (some ⟨X7, 0, none⟩)) ∧ (L 14 = true → x10 = .int .i64 er) ∧ (L 16 = true → x12 = .int .i64 er)) (by kernel_rfl) (by kernel_rfl) ?_ ?_ ?_
  · exact ⟨_, _, _, _, _, _, _, _, _, _, _, _, _, _, _, 0, 0, none, 0, 0, none, 0, 0, _, _, rfl, S9.start _ _ (Below.refl _ _).drew _ (fun j hj => by simp; omega), fun h => absurd h (by decide), fun h => absurd h (by decide), fun h => absurd h (by decide), fun h => absurd h (by decide), fun h => absurd h (by decide), fun h => absurd h (by decide), fun h => absurd h (by decide), fun h => absurd h (by decide), fun h => absurd h (by decide), fun h => absurd h (by decide), fun h => absurd h (by decide), fun h => absurd h (by decide), fun h => absurd h (by decide), fun h => absurd h (by decide), fun h => absurd h (by decide)⟩
  · intro i hi L a₁ w₁ hI hLi hdep
    obtain ⟨x48, x49, x50, x51, x52, x53, x47, x54, x55, x56, x57, x9, x11, x10, x12, X5, X7, ra, rl, rc, qa, ql, qc, wp, w5, ha, hS8, hI⟩ := hI
    subst ha
    obtain ⟨f0, f1, f2, f3, f4, f5, f6, f7, f8, f9, f10, f11, f12, f14, f16⟩ := hI
    replace f0 := hide f0
    replace f1 := hide f1
    replace f2 := hide f2
    replace f3 := hide f3
    replace f4 := hide f4
    replace f5 := hide f5
    replace f6 := hide f6
    replace f7 := hide f7
    replace f8 := hide f8
    replace f9 := hide f9
    replace f10 := hide f10
    replace f11 := hide f11
    replace f12 := hide f12
    replace f14 := hide f14
    replace f16 := hide f16
    replace hS8 := hide hS8
    have hiN : i < 17 := hi
    clear hi
    have hcases : i = 0 ∨ i = 1 ∨ i = 2 ∨ i = 3 ∨ i = 4 ∨ i = 5 ∨ i = 6 ∨ i = 7 ∨ i = 8 ∨ i = 9 ∨ i = 10 ∨ i = 11 ∨ i = 12 ∨ i = 13 ∨ i = 14 ∨ i = 15 ∨ i = 16 := (show ∀ i, i < 17 → (i = 0 ∨ i = 1 ∨ i = 2 ∨ i = 3 ∨ i = 4 ∨ i = 5 ∨ i = 6 ∨ i = 7 ∨ i = 8 ∨ i = 9 ∨ i = 10 ∨ i = 11 ∨ i = 12 ∨ i = 13 ∨ i = 14 ∨ i = 15 ∨ i = 16) by decide +kernel) i hiN
    clear hiN
    rcases hcases with rfl | rfl | rfl | rfl | rfl | rfl | rfl | rfl | rfl | rfl | rfl | rfl | rfl | rfl | rfl | rfl | rfl
    · clear hdep
      refine wpOp_step rfl (fun K' hKK => ?_)
      replace hKK := hide hKK
      go_simp
      refine hKK.out _ _ ?_
      exact ⟨_, _, _, _, _, _, _, _, _, _, _, _, _, _, _, X5, X7, ra, rl, rc, qa, ql, qc, wp, w5, rfl, hS8.out.same 0 (by decide) (fun h => by omega), (fun _ => rfl), (fun h => f1.out (lk h (by decide))), (fun h => f2.out (lk h (by decide))), (fun h => f3.out (lk h (by decide))), (fun h => f4.out (lk h (by decide))), (fun h => f5.out (lk h (by decide))), (fun h => f6.out (lk h (by decide))), (fun h => f7.out (lk h (by decide))), (fun h => f8.out (lk h (by decide))), (fun h => f9.out (lk h (by decide))), (fun h => f10.out (lk h (by decide))), (fun h => f11.out (lk h (by decide))), (fun h => f12.out (lk h (by decide))), (fun h => f14.out (lk h (by decide))), (fun h => f16.out (lk h (by decide)))⟩
    · clear hdep
      refine wpOp_step rfl (fun K' hKK => ?_)
      replace hKK := hide hKK
      go_simp
      refine hKK.out _ _ ?_
      exact ⟨_, _, _, _, _, _, _, _, _, _, _, _, _, _, _, X5, X7, ra, rl, rc, qa, ql, qc, wp, w5, rfl, hS8.out.same 1 (by decide) (fun h => by omega), (fun h => f0.out (lk h (by decide))), (fun _ => rfl), (fun h => f2.out (lk h (by decide))), (fun h => f3.out (lk h (by decide))), (fun h => f4.out (lk h (by decide))), (fun h => f5.out (lk h (by decide))), (fun h => f6.out (lk h (by decide))), (fun h => f7.out (lk h (by decide))), (fun h => f8.out (lk h (by decide))), (fun h => f9.out (lk h (by decide))), (fun h => f10.out (lk h (by decide))), (fun h => f11.out (lk h (by decide))), (fun h => f12.out (lk h (by decide))), (fun h => f14.out (lk h (by decide))), (fun h => f16.out (lk h (by decide)))⟩
    · have l0 : L 0 = true := hdep _ rfl ⟨0, .data⟩ (by simp) (by rfl)
      have l1 : L 1 = true := hdep _ rfl ⟨1, .data⟩ (by simp) (by rfl)
      clear hdep
      obtain rfl := f0.out l0
      obtain rfl := f1.out l1
      refine wpOp_step rfl (fun K' hKK => ?_)
      replace hKK := hide hKK
      go_simp
      refine hKK.out _ _ ?_
      exact ⟨_, _, _, _, _, _, _, _, _, _, _, _, _, _, _, X5, X7, ra, rl, rc, qa, ql, qc, wp, w5, rfl, hS8.out.same 2 (by decide) (fun h => by omega), (fun _ => rfl), (fun _ => rfl), (fun _ => rfl), (fun h => f3.out (lk h (by decide))), (fun h => f4.out (lk h (by decide))), (fun h => f5.out (lk h (by decide))), (fun h => f6.out (lk h (by decide))), (fun h => f7.out (lk h (by decide))), (fun h => f8.out (lk h (by decide))), (fun h => f9.out (lk h (by decide))), (fun h => f10.out (lk h (by decide))), (fun h => f11.out (lk h (by decide))), (fun h => f12.out (lk h (by decide))), (fun h => f14.out (lk h (by decide))), (fun h => f16.out (lk h (by decide)))⟩
    · have l2 : L 2 = true := hdep _ rfl ⟨2, .data⟩ (by simp) (by rfl)
      clear hdep
      obtain rfl := f2.out l2
      have hld := (SS.out _ hS8.out.low).1
      refine wpOp_step rfl (fun K' hKK => ?_)
      replace hKK := hide hKK
      refine step_loadO (by rfl) _ rfl b (o + k * 17) rfl K M N nd sl hld ?_
      try go_simp
      refine hKK.out _ _ ?_
      exact ⟨_, _, _, _, _, _, _, _, _, _, _, _, _, _, _, X5, X7, ra, rl, rc, qa, ql, qc, wp, w5, rfl, hS8.out.same 3 (by decide) (fun h => by omega), (fun h => f0.out (lk h (by decide))), (fun h => f1.out (lk h (by decide))), (fun _ => rfl), (fun _ => rfl), (fun h => f4.out (lk h (by decide))), (fun h => f5.out (lk h (by decide))), (fun h => f6.out (lk h (by decide))), (fun h => f7.out (lk h (by decide))), (fun h => f8.out (lk h (by decide))), (fun h => f9.out (lk h (by decide))), (fun h => f10.out (lk h (by decide))), (fun h => f11.out (lk h (by decide))), (fun h => f12.out (lk h (by decide))), (fun h => f14.out (lk h (by decide))), (fun h => f16.out (lk h (by decide)))⟩
    · clear hdep
      have hld := (SS.out _ hS8.out.low).2
      refine wpOp_step rfl (fun K' hKK => ?_)
      replace hKK := hide hKK
      refine step_loadW (by rfl) _ rfl X4 rfl tn ts hld ?_
      try go_simp
      refine hKK.out _ _ ?_
      exact ⟨_, _, _, _, _, _, _, _, _, _, _, _, _, _, _, X5, X7, ra, rl, rc, qa, ql, qc, wp, w5, rfl, hS8.out.same 4 (by decide) (fun h => by omega), (fun h => f0.out (lk h (by decide))), (fun h => f1.out (lk h (by decide))), (fun h => f2.out (lk h (by decide))), (fun h => f3.out (lk h (by decide))), (fun _ => rfl), (fun h => f5.out (lk h (by decide))), (fun h => f6.out (lk h (by decide))), (fun h => f7.out (lk h (by decide))), (fun h => f8.out (lk h (by decide))), (fun h => f9.out (lk h (by decide))), (fun h => f10.out (lk h (by decide))), (fun h => f11.out (lk h (by decide))), (fun h => f12.out (lk h (by decide))), (fun h => f14.out (lk h (by decide))), (fun h => f16.out (lk h (by decide)))⟩
    · have l3 : L 3 = true := hdep _ rfl ⟨3, .data⟩ (by simp) (by rfl)
      have l4 : L 4 = true := hdep _ rfl ⟨4, .data⟩ (by simp) (by rfl)
      clear hdep
      obtain rfl := f3.out l3
      obtain rfl := f4.out l4
      refine wpOp_step rfl (fun K' hKK => ?_)
      replace hKK := hide hKK
      go_simp
      go_wp2_with (refine (HC.out _ hS8.out.low).mono ?_; rintro e w9 ⟨ra', rl', rc', qa', ql', qc', rfl, hi1, hb5⟩)
      refine hKK.out _ _ ?_
      exact ⟨_, _, _, _, _, _, _, _, _, _, _, _, _, _, _, X5, X7, ra', rl', rc', qa', ql', qc', w₁, w9, rfl, hS8.out.call hLi hb5 hi1, (fun h => f0.out (lk h (by decide))), (fun h => f1.out (lk h (by decide))), (fun h => f2.out (lk h (by decide))), (fun _ => rfl), (fun _ => rfl), (fun _ => rfl), (fun h => absurd (hS8.out.o6 (.inl (lk h (by decide)))) (by rw [hLi]; decide)), (fun h => absurd (hS8.out.o6 (.inr (.inl (lk h (by decide))))) (by rw [hLi]; decide)), (fun h => f8.out (lk h (by decide))), (fun h => absurd (hS8.out.o6 (.inr (.inr (lk h (by decide))))) (by rw [hLi]; decide)), (fun h => f10.out (lk h (by decide))), (fun h => f11.out (lk h (by decide))), (fun h => f12.out (lk h (by decide))), (fun h => f14.out (lk h (by decide))), (fun h => f16.out (lk h (by decide)))⟩
    · have l5 : L 5 = true := hdep _ rfl ⟨5, .data⟩ (by simp) (by rfl)
      clear hdep
      obtain rfl := f5.out l5
      refine wpOp_step rfl (fun K' hKK => ?_)
      replace hKK := hide hKK
      go_simp
      refine hKK.out _ _ ?_
      exact ⟨_, _, _, _, _, _, _, _, _, _, _, _, _, _, _, X5, X7, ra, rl, rc, qa, ql, qc, wp, w5, rfl, hS8.out.same 6 (by decide) (fun _ => l5), (fun h => f0.out (lk h (by decide))), (fun h => f1.out (lk h (by decide))), (fun h => f2.out (lk h (by decide))), (fun h => f3.out (lk h (by decide))), (fun h => f4.out (lk h (by decide))), (fun _ => rfl), (fun _ => rfl), (fun h => f7.out (lk h (by decide))), (fun h => f8.out (lk h (by decide))), (fun h => f9.out (lk h (by decide))), (fun h => f10.out (lk h (by decide))), (fun h => f11.out (lk h (by decide))), (fun h => f12.out (lk h (by decide))), (fun h => f14.out (lk h (by decide))), (fun h => f16.out (lk h (by decide)))⟩
    · have l6 : L 6 = true := hdep _ rfl ⟨6, .data⟩ (by simp) (by rfl)
      clear hdep
      obtain rfl := f6.out l6
      refine wpOp_step rfl (fun K' hKK => ?_)
      replace hKK := hide hKK
      go_simp
      refine hKK.out _ _ ?_
      exact ⟨_, _, _, _, _, _, _, _, _, _, _, _, _, _, _, X5, X7, ra, rl, rc, qa, ql, qc, wp, w5, rfl, hS8.out.same 7 (by decide) (fun _ => hS8.out.o6 (.inl l6)), (fun h => f0.out (lk h (by decide))), (fun h => f1.out (lk h (by decide))), (fun h => f2.out (lk h (by decide))), (fun h => f3.out (lk h (by decide))), (fun h => f4.out (lk h (by decide))), (fun h => f5.out (lk h (by decide))), (fun _ => rfl), (fun _ => rfl), (fun h => f8.out (lk h (by decide))), (fun h => f9.out (lk h (by decide))), (fun h => f10.out (lk h (by decide))), (fun h => f11.out (lk h (by decide))), (fun h => f12.out (lk h (by decide))), (fun h => f14.out (lk h (by decide))), (fun h => f16.out (lk h (by decide)))⟩
    · have l6 : L 6 = true := hdep _ rfl ⟨6, .data⟩ (by simp) (by rfl)
      clear hdep
      obtain rfl := f6.out l6
      refine wpOp_step rfl (fun K' hKK => ?_)
      replace hKK := hide hKK
      go_simp
      refine hKK.out _ _ ?_
      exact ⟨_, _, _, _, _, _, _, _, _, _, _, _, _, _, _, X5, X7, ra, rl, rc, qa, ql, qc, wp, w5, rfl, hS8.out.same 8 (by decide) (fun h => by omega), (fun h => f0.out (lk h (by decide))), (fun h => f1.out (lk h (by decide))), (fun h => f2.out (lk h (by decide))), (fun h => f3.out (lk h (by decide))), (fun h => f4.out (lk h (by decide))), (fun h => f5.out (lk h (by decide))), (fun _ => rfl), (fun h => f7.out (lk h (by decide))), (fun _ => rfl), (fun h => f9.out (lk h (by decide))), (fun h => f10.out (lk h (by decide))), (fun h => f11.out (lk h (by decide))), (fun h => f12.out (lk h (by decide))), (fun h => f14.out (lk h (by decide))), (fun h => f16.out (lk h (by decide)))⟩
    · have l6 : L 6 = true := hdep _ rfl ⟨6, .data⟩ (by simp) (by rfl)
      clear hdep
      obtain rfl := f6.out l6
      refine wpOp_step rfl (fun K' hKK => ?_)
      replace hKK := hide hKK
      go_simp
      refine hKK.out _ _ ?_
      exact ⟨_, _, _, _, _, _, _, _, _, _, _, _, _, _, _, X5, X7, ra, rl, rc, qa, ql, qc, wp, w5, rfl, hS8.out.same 9 (by decide) (fun _ => hS8.out.o6 (.inl l6)), (fun h => f0.out (lk h (by decide))), (fun h => f1.out (lk h (by decide))), (fun h => f2.out (lk h (by decide))), (fun h => f3.out (lk h (by decide))), (fun h => f4.out (lk h (by decide))), (fun h => f5.out (lk h (by decide))), (fun _ => rfl), (fun h => f7.out (lk h (by decide))), (fun h => f8.out (lk h (by decide))), (fun _ => rfl), (fun h => f10.out (lk h (by decide))), (fun h => f11.out (lk h (by decide))), (fun h => f12.out (lk h (by decide))), (fun h => f14.out (lk h (by decide))), (fun h => f16.out (lk h (by decide)))⟩
    · have l6 : L 6 = true := hdep _ rfl ⟨6, .data⟩ (by simp) (by rfl)
      clear hdep
      obtain rfl := f6.out l6
      refine wpOp_step rfl (fun K' hKK => ?_)
      replace hKK := hide hKK
      go_simp
      refine hKK.out _ _ ?_
      exact ⟨_, _, _, _, _, _, _, _, _, _, _, _, _, _, _, X5, X7, ra, rl, rc, qa, ql, qc, wp, w5, rfl, hS8.out.same 10 (by decide) (fun h => by omega), (fun h => f0.out (lk h (by decide))), (fun h => f1.out (lk h (by decide))), (fun h => f2.out (lk h (by decide))), (fun h => f3.out (lk h (by decide))), (fun h => f4.out (lk h (by decide))), (fun h => f5.out (lk h (by decide))), (fun _ => rfl), (fun h => f7.out (lk h (by decide))), (fun h => f8.out (lk h (by decide))), (fun h => f9.out (lk h (by decide))), (fun _ => rfl), (fun h => f11.out (lk h (by decide))), (fun h => f12.out (lk h (by decide))), (fun h => f14.out (lk h (by decide))), (fun h => f16.out (lk h (by decide)))⟩
    · clear hdep
      refine wpOp_step rfl (fun K' hKK => ?_)
      replace hKK := hide hKK
      go_simp
      refine hKK.out _ _ ?_
      exact ⟨_, _, _, _, _, _, _, _, _, _, _, _, _, _, _, w₁.heap.size, X7, ra, rl, rc, qa, ql, qc, wp, w5, rfl, hS8.out.al5 hLi, (fun h => f0.out (lk h (by decide))), (fun h => f1.out (lk h (by decide))), (fun h => f2.out (lk h (by decide))), (fun h => f3.out (lk h (by decide))), (fun h => f4.out (lk h (by decide))), (fun h => f5.out (lk h (by decide))), (fun h => f6.out (lk h (by decide))), (fun h => f7.out (lk h (by decide))), (fun h => f8.out (lk h (by decide))), (fun h => f9.out (lk h (by decide))), (fun h => f10.out (lk h (by decide))), (fun _ => rfl), (fun h => f12.out (lk h (by decide))), (fun h => f14.out (lk h (by decide))), (fun h => f16.out (lk h (by decide)))⟩
    · clear hdep
      refine wpOp_step rfl (fun K' hKK => ?_)
      replace hKK := hide hKK
      go_simp
      refine hKK.out _ _ ?_
      exact ⟨_, _, _, _, _, _, _, _, _, _, _, _, _, _, _, X5, w₁.heap.size, ra, rl, rc, qa, ql, qc, wp, w5, rfl, hS8.out.al7 hLi, (fun h => f0.out (lk h (by decide))), (fun h => f1.out (lk h (by decide))), (fun h => f2.out (lk h (by decide))), (fun h => f3.out (lk h (by decide))), (fun h => f4.out (lk h (by decide))), (fun h => f5.out (lk h (by decide))), (fun h => f6.out (lk h (by decide))), (fun h => f7.out (lk h (by decide))), (fun h => f8.out (lk h (by decide))), (fun h => f9.out (lk h (by decide))), (fun h => f10.out (lk h (by decide))), (fun h => f11.out (lk h (by decide))), (fun _ => rfl), (fun h => f14.out (lk h (by decide))), (fun h => f16.out (lk h (by decide)))⟩
    · have l11 : L 11 = true := hdep _ rfl ⟨11, .data⟩ (by simp) (by rfl)
      have l7 : L 7 = true := hdep _ rfl ⟨7, .data⟩ (by simp) (by rfl)
      have l5 : L 5 = true := hdep _ rfl ⟨5, .chain⟩ (by simp) (by rfl)
      clear hdep
      obtain rfl := f11.out l11
      obtain rfl := f7.out l7
      obtain ⟨hbl, hs8⟩ := hS8.out.st5 l5 l11 hLi
      refine wpOp_step rfl (fun K' hKK => ?_)
      replace hKK := hide hKK
      refine step_store rfl _ _ rfl X5 rfl un _ _ _ rfl _ _ hbl ?_
      try go_simp
      refine hKK.out _ _ ?_
      exact ⟨_, _, _, _, _, _, _, _, _, _, _, _, _, _, _, X5, X7, ra, rl, rc, qa, ql, qc, wp, w5, rfl, hs8, (fun h => f0.out (lk h (by decide))), (fun h => f1.out (lk h (by decide))), (fun h => f2.out (lk h (by decide))), (fun h => f3.out (lk h (by decide))), (fun h => f4.out (lk h (by decide))), (fun h => f5.out (lk h (by decide))), (fun h => f6.out (lk h (by decide))), (fun _ => rfl), (fun h => f8.out (lk h (by decide))), (fun h => f9.out (lk h (by decide))), (fun h => f10.out (lk h (by decide))), (fun _ => rfl), (fun h => f12.out (lk h (by decide))), (fun h => f14.out (lk h (by decide))), (fun h => f16.out (lk h (by decide)))⟩
    · have l8 : L 8 = true := hdep _ rfl ⟨8, .data⟩ (by simp) (by rfl)
      clear hdep
      obtain rfl := f8.out l8
      refine wpOp_step rfl (fun K' hKK => ?_)
      replace hKK := hide hKK
      go_simp
      refine hKK.out _ _ ?_
      exact ⟨_, _, _, _, _, _, _, _, _, _, _, _, _, _, _, X5, X7, ra, rl, rc, qa, ql, qc, wp, w5, rfl, hS8.out.same 14 (by decide) (fun h => by omega), (fun h => f0.out (lk h (by decide))), (fun h => f1.out (lk h (by decide))), (fun h => f2.out (lk h (by decide))), (fun h => f3.out (lk h (by decide))), (fun h => f4.out (lk h (by decide))), (fun h => f5.out (lk h (by decide))), (fun h => f6.out (lk h (by decide))), (fun h => f7.out (lk h (by decide))), (fun _ => rfl), (fun h => f9.out (lk h (by decide))), (fun h => f10.out (lk h (by decide))), (fun h => f11.out (lk h (by decide))), (fun h => f12.out (lk h (by decide))), (fun _ => rfl), (fun h => f16.out (lk h (by decide)))⟩
    · have l12 : L 12 = true := hdep _ rfl ⟨12, .data⟩ (by simp) (by rfl)
      have l9 : L 9 = true := hdep _ rfl ⟨9, .data⟩ (by simp) (by rfl)
      have l5 : L 5 = true := hdep _ rfl ⟨5, .phase⟩ (by simp) (by rfl)
      clear hdep
      obtain rfl := f12.out l12
      obtain rfl := f9.out l9
      obtain ⟨hbl, hs8⟩ := hS8.out.st7 l5 l12 hLi
      refine wpOp_step rfl (fun K' hKK => ?_)
      replace hKK := hide hKK
      refine step_store rfl _ _ rfl X7 rfl un _ _ _ rfl _ _ hbl ?_
      try go_simp
      refine hKK.out _ _ ?_
      exact ⟨_, _, _, _, _, _, _, _, _, _, _, _, _, _, _, X5, X7, ra, rl, rc, qa, ql, qc, wp, w5, rfl, hs8, (fun h => f0.out (lk h (by decide))), (fun h => f1.out (lk h (by decide))), (fun h => f2.out (lk h (by decide))), (fun h => f3.out (lk h (by decide))), (fun h => f4.out (lk h (by decide))), (fun h => f5.out (lk h (by decide))), (fun h => f6.out (lk h (by decide))), (fun h => f7.out (lk h (by decide))), (fun h => f8.out (lk h (by decide))), (fun _ => rfl), (fun h => f10.out (lk h (by decide))), (fun h => f11.out (lk h (by decide))), (fun _ => rfl), (fun h => f14.out (lk h (by decide))), (fun h => f16.out (lk h (by decide)))⟩
    · have l10 : L 10 = true := hdep _ rfl ⟨10, .data⟩ (by simp) (by rfl)
      clear hdep
      obtain rfl := f10.out l10
      refine wpOp_step rfl (fun K' hKK => ?_)
      replace hKK := hide hKK
      go_simp
      refine hKK.out _ _ ?_
      exact ⟨_, _, _, _, _, _, _, _, _, _, _, _, _, _, _, X5, X7, ra, rl, rc, qa, ql, qc, wp, w5, rfl, hS8.out.same 16 (by decide) (fun h => by omega), (fun h => f0.out (lk h (by decide))), (fun h => f1.out (lk h (by decide))), (fun h => f2.out (lk h (by decide))), (fun h => f3.out (lk h (by decide))), (fun h => f4.out (lk h (by decide))), (fun h => f5.out (lk h (by decide))), (fun h => f6.out (lk h (by decide))), (fun h => f7.out (lk h (by decide))), (fun h => f8.out (lk h (by decide))), (fun h => f9.out (lk h (by decide))), (fun _ => rfl), (fun h => f11.out (lk h (by decide))), (fun h => f12.out (lk h (by decide))), (fun h => f14.out (lk h (by decide))), (fun _ => rfl)⟩
  intro L a₁ w₁ hall hI
  obtain ⟨x48, x49, x50, x51, x52, x53, x47, x54, x55, x56, x57, x9, x11, x10, x12, X5, X7, ra, rl, rc, qa, ql, qc, wp, w5, ha, hS8, hI⟩ := hI
  subst ha
  obtain ⟨f0, f1, f2, f3, f4, f5, f6, f7, f8, f9, f10, f11, f12, f14, f16⟩ := hI
  have l5 := hall 5 (by decide)
  have l11 := hall 11 (by decide)
  have l12 := hall 12 (by decide)
  have l13 := hall 13 (by decide)
  have l15 := hall 15 (by decide)
  obtain rfl := f0 (hall 0 (by decide))
  obtain rfl := f1 (hall 1 (by decide))
  obtain rfl := f2 (hall 2 (by decide))
  obtain rfl := f3 (hall 3 (by decide))
  obtain rfl := f4 (hall 4 (by decide))
  obtain rfl := f5 (hall 5 (by decide))
  obtain rfl := f6 (hall 6 (by decide))
  obtain rfl := f7 (hall 7 (by decide))
  obtain rfl := f8 (hall 8 (by decide))
  obtain rfl := f9 (hall 9 (by decide))
  obtain rfl := f10 (hall 10 (by decide))
  obtain rfl := f11 (hall 11 (by decide))
  obtain rfl := f12 (hall 12 (by decide))
  obtain rfl := f14 (hall 14 (by decide))
  obtain rfl := f16 (hall 16 (by decide))
  obtain ⟨b51, b52, b53⟩ := hS8.b5 l11
  obtain ⟨b71, b72, b73⟩ := hS8.b7 l12
  rw [if_pos l13] at b53
  rw [if_pos l15] at b73
  obtain ⟨k1, k2, k3⟩ := hS8.cl l5
  exact hQ _ _ _ _ _ _ _ _ _ _ _ k1 k2 k3 ((hS8.cc l5).wide (fun k hk => by rcases hk with ⟨_, e⟩ | ⟨_, e⟩; exact .inl e; exact .inr e)) (hS8.c5 l5 l11) (hS8.c7 l5 l12) b51 b71 (hS8.ne l11 l12) hS8.low b53 b73
end Go.Proofs.Ytiajoppbgebnpaa
namespace Go.Proofs.Ytiajoppbgebnpaa
open Go.RowKit Go.Sort
set_option linter.unusedVariables false

def rf21 (c : Code) : Code := d112 (d212 (d212 (d212 (d112 (d112 (d212 (d112 (d112 (d212 (d112 (d212 (d212 (d212 (d212 (d212 c)))))))))))))))
set_option maxHeartbeats 4000000 in
set_option maxRecDepth 100000 in
theorem sf21 {w : World} {b o len cap k X4 : Nat} {nd tn : Nd} {sl ts : Value} (p0 : (k : Int) < (len : Int))
    (SS : Hid (∀ w', Below w.heap.size w w' → Blk w' X4 (exC tn ts) 37 ∧ w'.rangeAt b (o + k * 17 + 1) (exC nd sl).toList)) (HK : Hid (∀ w', Below w.heap.size w w' → Calls Try.prog 11 #[exV tn ts, exV nd sl] w' fun e w'' => e = .returned (.bool true) ∧ Below w'.heap.size w' w''))
    {Q : Exit → Act → World → Prop} {u1 u2 u3 u4 u5 u8 u9 u10 u11 u12 u13 u14 u15 u16 u17 u18 u19 u20 u21 u22 u23 u24 u25 u26 u27 u28 u29 u30 u31 u32 u33 u34 u35 u36 u37 u38 u39 u40 u41 u42 u43 u44 u45 u46 u47 u48 u49 u50 u51 u52 u53 u54 u55 u56 u57 u58 u59 u60 u61 u62 u63 u64 u65 u66 u67 u68 u69 u70 u71 u72 u73 u74 u75 u76 u77 u78 u79 u80 u81 u82 u83 u84 u85 u86 u87 u88 u89 u90 u91 u92 u93 u94 u95 u96 u97 u98 : Value}
    (hQ : ∀ (w' : World), Below w.heap.size w w' → Q .normal ⟨#[.slice (some ⟨b, o, none⟩) len cap, u1, u2, u3, u4, u5, .int .i64 (k : Int), .pointer (some ⟨X4, 0, none⟩), u8, u9, u10, u11, u12, u13, u14, u15, u16, u17, u18, u19, u20, u21, u22, u23, u24, u25, u26, u27, u28, u29, u30, u31, u32, u33, u34, u35, u36, u37, u38, u39, u40, u41, u42, u43, u44, u45, u46, u47, u48, u49, u50, u51, u52, u53, u54, u55, u56, u57, u58, u59, u60, u61, u62, u63, u64, u65, u66, u67, u68, u69, u70, u71, u72, u73, u74, u75, exV tn ts, .slice (some ⟨b, o, none⟩) len cap, .int .i64 (k : Int), .pointer (some ⟨b, o + k * 17, none⟩), .pointer (some ⟨b, o + k * 17 + 1, none⟩), exV nd sl, .bool true, .bool false, u84, u85, u86, u87, u88, u89, u90, u91, u92, u93, u94, u95, u96, u97, u98], []⟩ w') :
    (rf21 (Try.f3.body.getD .skip)).wp Try.prog Q ⟨#[.slice (some ⟨b, o, none⟩) len cap, u1, u2, u3, u4, u5, .int .i64 (k : Int), .pointer (some ⟨X4, 0, none⟩), u8, u9, u10, u11, u12, u13, u14, u15, u16, u17, u18, u19, u20, u21, u22, u23, u24, u25, u26, u27, u28, u29, u30, u31, u32, u33, u34, u35, u36, u37, u38, u39, u40, u41, u42, u43, u44, u45, u46, u47, u48, u49, u50, u51, u52, u53, u54, u55, u56, u57, u58, u59, u60, u61, u62, u63, u64, u65, u66, u67, u68, u69, u70, u71, u72, u73, u74, u75, u76, u77, u78, u79, u80, u81, u82, u83, u84, u85, u86, u87, u88, u89, u90, u91, u92, u93, u94, u95, u96, u97, u98], []⟩ w := by
  dsimp only [Try.f3, Option.getD, rf21, d112, d212]
  refine region_inv (fun (L : Nat → Bool) (a₁ : Act) (w₁ : World) => ∃ (x76 x77 x78 x79 x80 x81 x82 x83 : Value), a₁ = ⟨#[.slice (some ⟨b, o, none⟩) len cap, u1, u2, u3, u4, u5, .int .i64 (k : Int), .pointer (some ⟨X4, 0, none⟩), u8, u9, u10, u11, u12, u13, u14, u15, u16, u17, u18, u19, u20, u21, u22, u23, u24, u25, u26, u27, u28, u29, u30, u31, u32, u33, u34, u35, u36, u37, u38, u39, u40, u41, u42, u43, u44, u45, u46, u47, u48, u49, u50, u51, u52, u53, u54, u55, u56, u57, u58, u59, u60, u61, u62, u63, u64, u65, u66, u67, u68, u69, u70, u71, u72, u73, u74, u75, x76, x77, x78, x79, x80, x81, x82, x83, u84, u85, u86, u87, u88, u89, u90, u91, u92, u93, u94, u95, u96, u97, u98], []⟩ ∧ Below w.heap.size w w₁ ∧ (L 0 = true → x76 = exV tn ts) ∧ (L 1 = true → x77 = .slice (some ⟨b, o, none⟩) len cap) ∧ (L 2 = true → x78 = .int .i64 (k : Int)) ∧ (L 3 = true → x79 = .pointer (some ⟨b, o + k * 17, none⟩)) ∧ (L 4 = true → x80 = .pointer (some ⟨b, o + k * 17 + 1, none⟩)) ∧ (L 5 = true → x81 = exV nd sl) ∧ (L 6 = true → x82 = .bool true) ∧ (L 7 = true → x83 = .bool false)) (by kernel_rfl) (by kernel_rfl) ?_ ?_ ?_
  · exact ⟨_, _, _, _, _, _, _, _, rfl, (Below.refl _ _).drew, fun h => absurd h (by decide), fun h => absurd h (by decide), fun h => absurd h (by decide), fun h => absurd h (by decide), fun h => absurd h (by decide), fun h => absurd h (by decide), fun h => absurd h (by decide), fun h => absurd h (by decide)⟩
  · intro i hi L a₁ w₁ hI hLi hdep
    obtain ⟨x76, x77, x78, x79, x80, x81, x82, x83, ha, hB, hI⟩ := hI
    subst ha
    obtain ⟨f0, f1, f2, f3, f4, f5, f6, f7⟩ := hI
    replace f0 := hide f0
    replace f1 := hide f1
    replace f2 := hide f2
    replace f3 := hide f3
    replace f4 := hide f4
    replace f5 := hide f5
    replace f6 := hide f6
    replace f7 := hide f7
    replace hB := hide hB
    have hiN : i < 8 := hi
    clear hi
    have hcases : i = 0 ∨ i = 1 ∨ i = 2 ∨ i = 3 ∨ i = 4 ∨ i = 5 ∨ i = 6 ∨ i = 7 := (show ∀ i, i < 8 → (i = 0 ∨ i = 1 ∨ i = 2 ∨ i = 3 ∨ i = 4 ∨ i = 5 ∨ i = 6 ∨ i = 7) by decide +kernel) i hiN
    clear hiN
    rcases hcases with rfl | rfl | rfl | rfl | rfl | rfl | rfl | rfl
    · clear hdep
      have hld := (SS.out _ hB.out).1
      refine wpOp_step rfl (fun K' hKK => ?_)
      replace hKK := hide hKK
      refine step_loadW (by rfl) _ rfl X4 rfl tn ts hld ?_
      try go_simp
      refine hKK.out _ _ ?_
      exact ⟨_, _, _, _, _, _, _, _, rfl, hB.out, (fun _ => rfl), (fun h => f1.out (lk h (by decide))), (fun h => f2.out (lk h (by decide))), (fun h => f3.out (lk h (by decide))), (fun h => f4.out (lk h (by decide))), (fun h => f5.out (lk h (by decide))), (fun h => f6.out (lk h (by decide))), (fun h => f7.out (lk h (by decide)))⟩
    · clear hdep
      refine wpOp_step rfl (fun K' hKK => ?_)
      replace hKK := hide hKK
      go_simp
      refine hKK.out _ _ ?_
      exact ⟨_, _, _, _, _, _, _, _, rfl, hB.out, (fun h => f0.out (lk h (by decide))), (fun _ => rfl), (fun h => f2.out (lk h (by decide))), (fun h => f3.out (lk h (by decide))), (fun h => f4.out (lk h (by decide))), (fun h => f5.out (lk h (by decide))), (fun h => f6.out (lk h (by decide))), (fun h => f7.out (lk h (by decide)))⟩
    · clear hdep
      refine wpOp_step rfl (fun K' hKK => ?_)
      replace hKK := hide hKK
      go_simp
      refine hKK.out _ _ ?_
      exact ⟨_, _, _, _, _, _, _, _, rfl, hB.out, (fun h => f0.out (lk h (by decide))), (fun h => f1.out (lk h (by decide))), (fun _ => rfl), (fun h => f3.out (lk h (by decide))), (fun h => f4.out (lk h (by decide))), (fun h => f5.out (lk h (by decide))), (fun h => f6.out (lk h (by decide))), (fun h => f7.out (lk h (by decide)))⟩
    · have l1 : L 1 = true := hdep _ rfl ⟨1, .data⟩ (by simp) (by rfl)
      have l2 : L 2 = true := hdep _ rfl ⟨2, .data⟩ (by simp) (by rfl)
      clear hdep
      obtain rfl := f1.out l1
      obtain rfl := f2.out l2
      refine wpOp_step rfl (fun K' hKK => ?_)
      replace hKK := hide hKK
      go_simp
      refine hKK.out _ _ ?_
      exact ⟨_, _, _, _, _, _, _, _, rfl, hB.out, (fun h => f0.out (lk h (by decide))), (fun _ => rfl), (fun _ => rfl), (fun _ => rfl), (fun h => f4.out (lk h (by decide))), (fun h => f5.out (lk h (by decide))), (fun h => f6.out (lk h (by decide))), (fun h => f7.out (lk h (by decide)))⟩
    · have l3 : L 3 = true := hdep _ rfl ⟨3, .data⟩ (by simp) (by rfl)
      clear hdep
      obtain rfl := f3.out l3
      refine wpOp_step rfl (fun K' hKK => ?_)
      replace hKK := hide hKK
      go_simp
      refine hKK.out _ _ ?_
      exact ⟨_, _, _, _, _, _, _, _, rfl, hB.out, (fun h => f0.out (lk h (by decide))), (fun h => f1.out (lk h (by decide))), (fun h => f2.out (lk h (by decide))), (fun _ => rfl), (fun _ => rfl), (fun h => f5.out (lk h (by decide))), (fun h => f6.out (lk h (by decide))), (fun h => f7.out (lk h (by decide)))⟩
    · have l4 : L 4 = true := hdep _ rfl ⟨4, .data⟩ (by simp) (by rfl)
      clear hdep
      obtain rfl := f4.out l4
      have hld := (SS.out _ hB.out).2
      refine wpOp_step rfl (fun K' hKK => ?_)
      replace hKK := hide hKK
      refine step_loadM (by rfl) _ rfl b (o + k * 17 + 1) rfl nd sl hld ?_
      try go_simp
      refine hKK.out _ _ ?_
      exact ⟨_, _, _, _, _, _, _, _, rfl, hB.out, (fun h => f0.out (lk h (by decide))), (fun h => f1.out (lk h (by decide))), (fun h => f2.out (lk h (by decide))), (fun h => f3.out (lk h (by decide))), (fun _ => rfl), (fun _ => rfl), (fun h => f6.out (lk h (by decide))), (fun h => f7.out (lk h (by decide)))⟩
    · have l0 : L 0 = true := hdep _ rfl ⟨0, .data⟩ (by simp) (by rfl)
      have l5 : L 5 = true := hdep _ rfl ⟨5, .data⟩ (by simp) (by rfl)
      clear hdep
      obtain rfl := f0.out l0
      obtain rfl := f5.out l5
      refine wpOp_step rfl (fun K' hKK => ?_)
      replace hKK := hide hKK
      go_simp
      go_wp2_with (refine (HK.out _ hB.out).mono ?_; rintro e w5 ⟨rfl, hb5⟩)
      refine hKK.out _ _ ?_
      exact ⟨_, _, _, _, _, _, _, _, rfl, next hB.out hb5, (fun _ => rfl), (fun h => f1.out (lk h (by decide))), (fun h => f2.out (lk h (by decide))), (fun h => f3.out (lk h (by decide))), (fun h => f4.out (lk h (by decide))), (fun _ => rfl), (fun _ => rfl), (fun h => f7.out (lk h (by decide)))⟩
    · have l6 : L 6 = true := hdep _ rfl ⟨6, .data⟩ (by simp) (by rfl)
      clear hdep
      obtain rfl := f6.out l6
      refine wpOp_step rfl (fun K' hKK => ?_)
      replace hKK := hide hKK
      go_simp
      refine hKK.out _ _ ?_
      exact ⟨_, _, _, _, _, _, _, _, rfl, hB.out, (fun h => f0.out (lk h (by decide))), (fun h => f1.out (lk h (by decide))), (fun h => f2.out (lk h (by decide))), (fun h => f3.out (lk h (by decide))), (fun h => f4.out (lk h (by decide))), (fun h => f5.out (lk h (by decide))), (fun _ => rfl), (fun _ => rfl)⟩
  · intro L a₁ w₁ hall hI
    obtain ⟨x76, x77, x78, x79, x80, x81, x82, x83, ha, hB, hI⟩ := hI
    subst ha
    obtain ⟨f0, f1, f2, f3, f4, f5, f6, f7⟩ := hI
    obtain rfl := f0 (hall 0 (by decide))
    obtain rfl := f1 (hall 1 (by decide))
    obtain rfl := f2 (hall 2 (by decide))
    obtain rfl := f3 (hall 3 (by decide))
    obtain rfl := f4 (hall 4 (by decide))
    obtain rfl := f5 (hall 5 (by decide))
    obtain rfl := f6 (hall 6 (by decide))
    obtain rfl := f7 (hall 7 (by decide))
    exact hQ _ hB
end Go.Proofs.Ytiajoppbgebnpaa
