/- ShiftAll's drawn statements, each by itself. Proved of the Go text. ShiftAll's last drawn statement, by itself. Proved of the Go text. -/
import Derived.Test.YtnikmbkkhfmbeaaSmJ
import Derived.Test.YtnikmbkkhfmbeaaTwJ
namespace Go.Proofs.Ytnikmbkkhfmbeaa
open Go.RowKit Go.Sort
set_option linter.unusedVariables false

theorem lk {L : Nat → Bool} {j k : Nat} (h : (if j = k then true else L j) = true) (hn : j ≠ k) : L j = true := by rwa [if_neg hn] at h
def d112 : Code → Code
  | .seq a _ => a
  | .cond _ a _ => a
  | .block _ b => b
  | .loop b => b
  | c => c
def d212 : Code → Code
  | .seq _ b => b
  | .cond _ _ b => b
  | c => c
theorem step_loadW {ops : Array Oper} {o : Oper} {a : Act} {w : World} {Kn : Act → World → Prop} {Q : Exit → Act → World → Prop} {EE : Prop} (hw : Region.wanted o (yielded ops a.tmps) = true) (x : Operand) (ho : o.op = .load 29 x) (g : Nat)
    (hx : a.eval x = .pointer (some ⟨g, 0, none⟩)) (n : Nd) (s : Value) (hg : Blk w g (exC n s) 29) (h : Kn (a.put o.dst (exV n s)) w) : if Region.wanted o (yielded ops a.tmps) = true then Oper.wp Try.prog o a w Kn Q else EE := by
  rw [if_pos hw]
  exact wp_load_row 29 x ho g hx _ _ _ _ hg Try.underlying29 rfl (exC_info _ _) h
theorem step_loadM {ops : Array Oper} {o : Oper} {a : Act} {w : World} {Kn : Act → World → Prop} {Q : Exit → Act → World → Prop} {EE : Prop} (hw : Region.wanted o (yielded ops a.tmps) = true) (x : Operand) (ho : o.op = .load 29 x) (g off : Nat)
    (hx : a.eval x = .pointer (some ⟨g, off, none⟩)) (n : Nd) (s : Value) (hg : w.rangeAt g off (exC n s).toList) (h : Kn (a.put o.dst (exV n s)) w) : if Region.wanted o (yielded ops a.tmps) = true then Oper.wp Try.prog o a w Kn Q else EE := by
  rw [if_pos hw]
  refine wp_load_mid 29 x ho g off hx _ _ hg Try.underlying29 rfl (by rw [exC_len]; exact exC_info n s) ?_
  rw [Array.toArray_toList]; exact h
theorem opX_info (K M N : Int) (n : Nd) (s : Value) : (Try.prog.info? 31).map (·.size) = some 17 := by kernel_rfl
theorem step_loadO {ops : Array Oper} {o : Oper} {a : Act} {w : World} {Kn : Act → World → Prop} {Q : Exit → Act → World → Prop} {EE : Prop} (hw : Region.wanted o (yielded ops a.tmps) = true) (x : Operand) (ho : o.op = .load 31 x) (g off : Nat)
    (hx : a.eval x = .pointer (some ⟨g, off, none⟩)) (K M N : Int) (n : Nd) (s : Value) (hg : w.rangeAt g off (opX K M N n s).toList) (h : Kn (a.put o.dst (.agg (opX K M N n s))) w) : if Region.wanted o (yielded ops a.tmps) = true then Oper.wp Try.prog o a w Kn Q else EE := by
  rw [if_pos hw]
  refine wp_load_mid 31 x ho g off hx _ _ hg Try.underlying31 rfl (opX_info K M N n s) ?_
  rw [Array.toArray_toList]; exact h
def rs8 (c : Code) : Code := d112 (d212 (d212 (d112 (d112 (d212 (d112 (d112 (d212 (d112 (d212 (d212 c)))))))))))
set_option maxHeartbeats 4000000 in
set_option maxRecDepth 100000 in
theorem sa8 {w : World} {b o len cap k X4 : Nat} {K M N er : Int} {nd tn un : Nd} {sl ts : Value} {u : Ex} (p0 : (k : Int) < (len : Int))
    (SS : Hid (∀ w', Below w.heap.size w w' → w'.rangeAt b (o + k * 17) (opX K M N nd sl).toList ∧ Blk w' X4 (exC tn ts) 29)) (HC : Hid (∀ w', Below w.heap.size w w' → Calls Try.prog 8 #[.agg (opX K M N nd sl), exV tn ts] w' fun e w'' => ∃ (ra : Option Addr) (rl rc : Nat) (qa : Option Addr) (ql qc : Nat), e = .returned (.tuple #[exV un (.slice ra rl rc), .int .i64 er, exV un (.slice qa ql qc), .int .i64 er]) ∧ In (OldN w.heap.size w'.heap.size w''.heap.size) w'' (exV un (.slice ra rl rc)) u ∧ In (OldN w.heap.size w'.heap.size w''.heap.size) w'' (exV un (.slice qa ql qc)) u ∧ Below w'.heap.size w' w''))
    {Q : Exit → Act → World → Prop} {u1 u2 u5 u6 u7 u8 u9 u10 u11 u12 u13 u14 u15 u16 u17 u18 u19 u20 u21 u22 u23 u24 u25 u26 u27 u28 u29 u30 u31 u32 u33 u34 u35 u36 u37 u38 u39 u40 u41 u42 u43 u44 u45 u46 u47 u48 u49 u50 u51 u52 u53 u54 u55 u56 u57 u58 u59 u60 u61 u62 u63 : Value}
    (hQ : ∀ (X5 X7 : Nat) (ra : Option Addr) (rl rc : Nat) (qa : Option Addr) (ql qc : Nat) (w' : World), Below w.heap.size w w' → Tree w' (exV un (.slice ra rl rc)) u → Tree w' (exV un (.slice qa ql qc)) u → Blk w' X5 (exC un (.slice ra rl rc)) 29 → Blk w' X7 (exC un (.slice qa ql qc)) 29 → Q .normal ⟨#[.slice (some ⟨b, o, none⟩) len cap, u1, u2, .int .i64 (k : Int), .pointer (some ⟨X4, 0, none⟩), .pointer (some ⟨X5, 0, none⟩), .int .i64 er, .pointer (some ⟨X7, 0, none⟩), .int .i64 er, u9, u10, u11, u12, u13, u14, u15, u16, u17, u18, u19, u20, u21, u22, u23, u24, u25, u26, u27, u28, u29, u30, u31, u32, u33, .tuple #[exV un (.slice ra rl rc), .int .i64 er, exV un (.slice qa ql qc), .int .i64 er], .slice (some ⟨b, o, none⟩) len cap, .int .i64 (k : Int), .pointer (some ⟨b, o + k * 17, none⟩), .agg (opX K M N nd sl), exV tn ts, .tuple #[exV un (.slice ra rl rc), .int .i64 er, exV un (.slice qa ql qc), .int .i64 er], exV un (.slice ra rl rc), .int .i64 er, exV un (.slice qa ql qc), .int .i64 er, u45, u46, u47, u48, u49, u50, u51, u52, u53, u54, u55, u56, u57, u58, u59, u60, u61, u62, u63], []⟩ w') :
    (rs8 (Try.f3.body.getD .skip)).wp Try.prog Q ⟨#[.slice (some ⟨b, o, none⟩) len cap, u1, u2, .int .i64 (k : Int), .pointer (some ⟨X4, 0, none⟩), u5, u6, u7, u8, u9, u10, u11, u12, u13, u14, u15, u16, u17, u18, u19, u20, u21, u22, u23, u24, u25, u26, u27, u28, u29, u30, u31, u32, u33, u34, u35, u36, u37, u38, u39, u40, u41, u42, u43, u44, u45, u46, u47, u48, u49, u50, u51, u52, u53, u54, u55, u56, u57, u58, u59, u60, u61, u62, u63], []⟩ w := by
  dsimp only [Try.f3, Option.getD, rs8, d112, d212]
  refine region_inv (fun (L : Nat → Bool) (a₁ : Act) (w₁ : World) => ∃ (x35 x36 x37 x38 x39 x40 x34 x41 x42 x43 x44 x5 x7 x6 x8 : Value) (X5 X7 : Nat) (ra : Option Addr) (rl rc : Nat) (qa : Option Addr) (ql qc : Nat), a₁ = ⟨#[.slice (some ⟨b, o, none⟩) len cap, u1, u2, .int .i64 (k : Int), .pointer (some ⟨X4, 0, none⟩), x5, x6, x7, x8, u9, u10, u11, u12, u13, u14, u15, u16, u17, u18, u19, u20, u21, u22, u23, u24, u25, u26, u27, u28, u29, u30, u31, u32, u33, x34, x35, x36, x37, x38, x39, x40, x41, x42, x43, x44, u45, u46, u47, u48, u49, u50, u51, u52, u53, u54, u55, u56, u57, u58, u59, u60, u61, u62, u63], []⟩ ∧ S8 w L w₁ X5 X7 un (.slice ra rl rc) (.slice qa ql qc) u ∧ (L 0 = true → x35 = .slice (some ⟨b, o, none⟩) len cap) ∧ (L 1 = true → x36 = .int .i64 (k : Int)) ∧ (L 2 = true → x37 = .pointer (some ⟨b, o + k * 17, none⟩)) ∧ (L 3 = true → x38 = .agg (opX K M N nd sl)) ∧ (L 4 = true → x39 = exV tn ts) ∧ (L 5 = true → x40 = .tuple #[exV un (.slice ra rl rc), .int .i64 er, exV un (.slice qa ql qc), .int .i64 er]) ∧ (L 6 = true → x34 = .tuple #[exV un (.slice ra rl rc), .int .i64 er, exV un (.slice qa ql qc), .int .i64 er]) ∧ (L 7 = true → x41 = exV un (.slice ra rl rc)) ∧ (L 8 = true → x42 = .int .i64 er) ∧ (L 9 = true → x43 = exV un (.slice qa ql qc)) ∧ (L 10 = true → x44 = .int .i64 er) ∧ (L 11 = true → x5 = .pointer (some ⟨X5, 0, none⟩)) ∧ (L 12 = true → x7 = .pointer (some ⟨X7, 0, none⟩)) ∧ (L 14 = true → x6 = .int .i64 er) ∧ (L 16 = true → x8 = .int .i64 er)) (by kernel_rfl) (by kernel_rfl) ?_ ?_ ?_
  · exact ⟨_, _, _, _, _, _, _, _, _, _, _, _, _, _, _, 0, 0, none, 0, 0, none, 0, 0, rfl, S8.start _ _ (Below.refl _ _).drew _ (fun j hj => by simp; omega), fun h => absurd h (by decide), fun h => absurd h (by decide), fun h => absurd h (by decide), fun h => absurd h (by decide), fun h => absurd h (by decide), fun h => absurd h (by decide), fun h => absurd h (by decide), fun h => absurd h (by decide), fun h => absurd h (by decide), fun h => absurd h (by decide), fun h => absurd h (by decide), fun h => absurd h (by decide), fun h => absurd h (by decide), fun h => absurd h (by decide), fun h => absurd h (by decide)⟩
  · intro i hi L a₁ w₁ hI hLi hdep
    obtain ⟨x35, x36, x37, x38, x39, x40, x34, x41, x42, x43, x44, x5, x7, x6, x8, X5, X7, ra, rl, rc, qa, ql, qc, ha, hS8, hI⟩ := hI
    subst ha
    obtain ⟨f0, f1, f2, f3, f4, f5, f6, f7, f8, f9, f10, f11, f12, f14, f16⟩ := hI
    replace f0 := hide f0
    replace f1 := hide f1
    replace f2 := hide f2
    replace f3 := hide f3
    replace f4 := hide f4
    replace f5 := hide f5
    replace f6 := hide f6
    replace f7 := hide f7
    replace f8 := hide f8
    replace f9 := hide f9
    replace f10 := hide f10
    replace f11 := hide f11
    replace f12 := hide f12
    replace f14 := hide f14
    replace f16 := hide f16
    replace hS8 := hide hS8
    have hiN : i < 17 := hi
    clear hi
    have hcases : i = 0 ∨ i = 1 ∨ i = 2 ∨ i = 3 ∨ i = 4 ∨ i = 5 ∨ i = 6 ∨ i = 7 ∨ i = 8 ∨ i = 9 ∨ i = 10 ∨ i = 11 ∨ i = 12 ∨ i = 13 ∨ i = 14 ∨ i = 15 ∨ i = 16 := (show ∀ i, i < 17 → (i = 0 ∨ i = 1 ∨ i = 2 ∨ i = 3 ∨ i = 4 ∨ i = 5 ∨ i = 6 ∨ i = 7 ∨ i = 8 ∨ i = 9 ∨ i = 10 ∨ i = 11 ∨ i = 12 ∨ i = 13 ∨ i = 14 ∨ i = 15 ∨ i = 16) by decide +kernel) i hiN
    clear hiN
    rcases hcases with rfl | rfl | rfl | rfl | rfl | rfl | rfl | rfl | rfl | rfl | rfl | rfl | rfl | rfl | rfl | rfl | rfl
    · clear hdep
      refine wpOp_step rfl (fun K' hKK => ?_)
      replace hKK := hide hKK
      go_simp
      refine hKK.out _ _ ?_
      exact ⟨_, _, _, _, _, _, _, _, _, _, _, _, _, _, _, X5, X7, ra, rl, rc, qa, ql, qc, rfl, hS8.out.same 0 (by decide) (fun h => by omega), (fun _ => rfl), (fun h => f1.out (lk h (by decide))), (fun h => f2.out (lk h (by decide))), (fun h => f3.out (lk h (by decide))), (fun h => f4.out (lk h (by decide))), (fun h => f5.out (lk h (by decide))), (fun h => f6.out (lk h (by decide))), (fun h => f7.out (lk h (by decide))), (fun h => f8.out (lk h (by decide))), (fun h => f9.out (lk h (by decide))), (fun h => f10.out (lk h (by decide))), (fun h => f11.out (lk h (by decide))), (fun h => f12.out (lk h (by decide))), (fun h => f14.out (lk h (by decide))), (fun h => f16.out (lk h (by decide)))⟩
    · clear hdep
      refine wpOp_step rfl (fun K' hKK => ?_)
      replace hKK := hide hKK
      go_simp
      refine hKK.out _ _ ?_
      exact ⟨_, _, _, _, _, _, _, _, _, _, _, _, _, _, _, X5, X7, ra, rl, rc, qa, ql, qc, rfl, hS8.out.same 1 (by decide) (fun h => by omega), (fun h => f0.out (lk h (by decide))), (fun _ => rfl), (fun h => f2.out (lk h (by decide))), (fun h => f3.out (lk h (by decide))), (fun h => f4.out (lk h (by decide))), (fun h => f5.out (lk h (by decide))), (fun h => f6.out (lk h (by decide))), (fun h => f7.out (lk h (by decide))), (fun h => f8.out (lk h (by decide))), (fun h => f9.out (lk h (by decide))), (fun h => f10.out (lk h (by decide))), (fun h => f11.out (lk h (by decide))), (fun h => f12.out (lk h (by decide))), (fun h => f14.out (lk h (by decide))), (fun h => f16.out (lk h (by decide)))⟩
    · have l0 : L 0 = true := hdep _ rfl ⟨0, .data⟩ (by simp) (by rfl)
      have l1 : L 1 = true := hdep _ rfl ⟨1, .data⟩ (by simp) (by rfl)
      clear hdep
      obtain rfl := f0.out l0
      obtain rfl := f1.out l1
      refine wpOp_step rfl (fun K' hKK => ?_)
      replace hKK := hide hKK
      go_simp
      refine hKK.out _ _ ?_
      exact ⟨_, _, _, _, _, _, _, _, _, _, _, _, _, _, _, X5, X7, ra, rl, rc, qa, ql, qc, rfl, hS8.out.same 2 (by decide) (fun h => by omega), (fun _ => rfl), (fun _ => rfl), (fun _ => rfl), (fun h => f3.out (lk h (by decide))), (fun h => f4.out (lk h (by decide))), (fun h => f5.out (lk h (by decide))), (fun h => f6.out (lk h (by decide))), (fun h => f7.out (lk h (by decide))), (fun h => f8.out (lk h (by decide))), (fun h => f9.out (lk h (by decide))), (fun h => f10.out (lk h (by decide))), (fun h => f11.out (lk h (by decide))), (fun h => f12.out (lk h (by decide))), (fun h => f14.out (lk h (by decide))), (fun h => f16.out (lk h (by decide)))⟩
    · have l2 : L 2 = true := hdep _ rfl ⟨2, .data⟩ (by simp) (by rfl)
      clear hdep
      obtain rfl := f2.out l2
      have hld := (SS.out _ hS8.out.low).1
      refine wpOp_step rfl (fun K' hKK => ?_)
      replace hKK := hide hKK
      refine step_loadO (by rfl) _ rfl b (o + k * 17) rfl K M N nd sl hld ?_
      try go_simp
      refine hKK.out _ _ ?_
      exact ⟨_, _, _, _, _, _, _, _, _, _, _, _, _, _, _, X5, X7, ra, rl, rc, qa, ql, qc, rfl, hS8.out.same 3 (by decide) (fun h => by omega), (fun h => f0.out (lk h (by decide))), (fun h => f1.out (lk h (by decide))), (fun _ => rfl), (fun _ => rfl), (fun h => f4.out (lk h (by decide))), (fun h => f5.out (lk h (by decide))), (fun h => f6.out (lk h (by decide))), (fun h => f7.out (lk h (by decide))), (fun h => f8.out (lk h (by decide))), (fun h => f9.out (lk h (by decide))), (fun h => f10.out (lk h (by decide))), (fun h => f11.out (lk h (by decide))), (fun h => f12.out (lk h (by decide))), (fun h => f14.out (lk h (by decide))), (fun h => f16.out (lk h (by decide)))⟩
    · clear hdep
      have hld := (SS.out _ hS8.out.low).2
      refine wpOp_step rfl (fun K' hKK => ?_)
      replace hKK := hide hKK
      refine step_loadW (by rfl) _ rfl X4 rfl tn ts hld ?_
      try go_simp
      refine hKK.out _ _ ?_
      exact ⟨_, _, _, _, _, _, _, _, _, _, _, _, _, _, _, X5, X7, ra, rl, rc, qa, ql, qc, rfl, hS8.out.same 4 (by decide) (fun h => by omega), (fun h => f0.out (lk h (by decide))), (fun h => f1.out (lk h (by decide))), (fun h => f2.out (lk h (by decide))), (fun h => f3.out (lk h (by decide))), (fun _ => rfl), (fun h => f5.out (lk h (by decide))), (fun h => f6.out (lk h (by decide))), (fun h => f7.out (lk h (by decide))), (fun h => f8.out (lk h (by decide))), (fun h => f9.out (lk h (by decide))), (fun h => f10.out (lk h (by decide))), (fun h => f11.out (lk h (by decide))), (fun h => f12.out (lk h (by decide))), (fun h => f14.out (lk h (by decide))), (fun h => f16.out (lk h (by decide)))⟩
    · have l3 : L 3 = true := hdep _ rfl ⟨3, .data⟩ (by simp) (by rfl)
      have l4 : L 4 = true := hdep _ rfl ⟨4, .data⟩ (by simp) (by rfl)
      clear hdep
      obtain rfl := f3.out l3
      obtain rfl := f4.out l4
      refine wpOp_step rfl (fun K' hKK => ?_)
      replace hKK := hide hKK
      go_simp
      go_wp2_with (refine (HC.out _ hS8.out.low).mono ?_; rintro e w5 ⟨ra', rl', rc', qa', ql', qc', rfl, hi1, hi2, hb5⟩)
      refine hKK.out _ _ ?_
      exact ⟨_, _, _, _, _, _, _, _, _, _, _, _, _, _, _, X5, X7, ra', rl', rc', qa', ql', qc', rfl, hS8.out.call hLi hb5 hi1 hi2, (fun h => f0.out (lk h (by decide))), (fun h => f1.out (lk h (by decide))), (fun h => f2.out (lk h (by decide))), (fun _ => rfl), (fun _ => rfl), (fun _ => rfl), (fun h => absurd (hS8.out.o6 (.inl (lk h (by decide)))) (by rw [hLi]; decide)), (fun h => absurd (hS8.out.o6 (.inr (.inl (lk h (by decide))))) (by rw [hLi]; decide)), (fun h => f8.out (lk h (by decide))), (fun h => absurd (hS8.out.o6 (.inr (.inr (lk h (by decide))))) (by rw [hLi]; decide)), (fun h => f10.out (lk h (by decide))), (fun h => f11.out (lk h (by decide))), (fun h => f12.out (lk h (by decide))), (fun h => f14.out (lk h (by decide))), (fun h => f16.out (lk h (by decide)))⟩
    · have l5 : L 5 = true := hdep _ rfl ⟨5, .data⟩ (by simp) (by rfl)
      clear hdep
      obtain rfl := f5.out l5
      refine wpOp_step rfl (fun K' hKK => ?_)
      replace hKK := hide hKK
      go_simp
      refine hKK.out _ _ ?_
      exact ⟨_, _, _, _, _, _, _, _, _, _, _, _, _, _, _, X5, X7, ra, rl, rc, qa, ql, qc, rfl, hS8.out.same 6 (by decide) (fun _ => l5), (fun h => f0.out (lk h (by decide))), (fun h => f1.out (lk h (by decide))), (fun h => f2.out (lk h (by decide))), (fun h => f3.out (lk h (by decide))), (fun h => f4.out (lk h (by decide))), (fun _ => rfl), (fun _ => rfl), (fun h => f7.out (lk h (by decide))), (fun h => f8.out (lk h (by decide))), (fun h => f9.out (lk h (by decide))), (fun h => f10.out (lk h (by decide))), (fun h => f11.out (lk h (by decide))), (fun h => f12.out (lk h (by decide))), (fun h => f14.out (lk h (by decide))), (fun h => f16.out (lk h (by decide)))⟩
    · have l6 : L 6 = true := hdep _ rfl ⟨6, .data⟩ (by simp) (by rfl)
      clear hdep
      obtain rfl := f6.out l6
      refine wpOp_step rfl (fun K' hKK => ?_)
      replace hKK := hide hKK
      go_simp
      refine hKK.out _ _ ?_
      exact ⟨_, _, _, _, _, _, _, _, _, _, _, _, _, _, _, X5, X7, ra, rl, rc, qa, ql, qc, rfl, hS8.out.same 7 (by decide) (fun _ => hS8.out.o6 (.inl l6)), (fun h => f0.out (lk h (by decide))), (fun h => f1.out (lk h (by decide))), (fun h => f2.out (lk h (by decide))), (fun h => f3.out (lk h (by decide))), (fun h => f4.out (lk h (by decide))), (fun h => f5.out (lk h (by decide))), (fun _ => rfl), (fun _ => rfl), (fun h => f8.out (lk h (by decide))), (fun h => f9.out (lk h (by decide))), (fun h => f10.out (lk h (by decide))), (fun h => f11.out (lk h (by decide))), (fun h => f12.out (lk h (by decide))), (fun h => f14.out (lk h (by decide))), (fun h => f16.out (lk h (by decide)))⟩
    · have l6 : L 6 = true := hdep _ rfl ⟨6, .data⟩ (by simp) (by rfl)
      clear hdep
      obtain rfl := f6.out l6
      refine wpOp_step rfl (fun K' hKK => ?_)
      replace hKK := hide hKK
      go_simp
      refine hKK.out _ _ ?_
      exact ⟨_, _, _, _, _, _, _, _, _, _, _, _, _, _, _, X5, X7, ra, rl, rc, qa, ql, qc, rfl, hS8.out.same 8 (by decide) (fun h => by omega), (fun h => f0.out (lk h (by decide))), (fun h => f1.out (lk h (by decide))), (fun h => f2.out (lk h (by decide))), (fun h => f3.out (lk h (by decide))), (fun h => f4.out (lk h (by decide))), (fun h => f5.out (lk h (by decide))), (fun _ => rfl), (fun h => f7.out (lk h (by decide))), (fun _ => rfl), (fun h => f9.out (lk h (by decide))), (fun h => f10.out (lk h (by decide))), (fun h => f11.out (lk h (by decide))), (fun h => f12.out (lk h (by decide))), (fun h => f14.out (lk h (by decide))), (fun h => f16.out (lk h (by decide)))⟩
    · have l6 : L 6 = true := hdep _ rfl ⟨6, .data⟩ (by simp) (by rfl)
      clear hdep
      obtain rfl := f6.out l6
      refine wpOp_step rfl (fun K' hKK => ?_)
      replace hKK := hide hKK
      go_simp
      refine hKK.out _ _ ?_
      exact ⟨_, _, _, _, _, _, _, _, _, _, _, _, _, _, _, X5, X7, ra, rl, rc, qa, ql, qc, rfl, hS8.out.same 9 (by decide) (fun _ => hS8.out.o6 (.inl l6)), (fun h => f0.out (lk h (by decide))), (fun h => f1.out (lk h (by decide))), (fun h => f2.out (lk h (by decide))), (fun h => f3.out (lk h (by decide))), (fun h => f4.out (lk h (by decide))), (fun h => f5.out (lk h (by decide))), (fun _ => rfl), (fun h => f7.out (lk h (by decide))), (fun h => f8.out (lk h (by decide))), (fun _ => rfl), (fun h => f10.out (lk h (by decide))), (fun h => f11.out (lk h (by decide))), (fun h => f12.out (lk h (by decide))), (fun h => f14.out (lk h (by decide))), (fun h => f16.out (lk h (by decide)))⟩
    · have l6 : L 6 = true := hdep _ rfl ⟨6, .data⟩ (by simp) (by rfl)
      clear hdep
      obtain rfl := f6.out l6
      refine wpOp_step rfl (fun K' hKK => ?_)
      replace hKK := hide hKK
      go_simp
      refine hKK.out _ _ ?_
      exact ⟨_, _, _, _, _, _, _, _, _, _, _, _, _, _, _, X5, X7, ra, rl, rc, qa, ql, qc, rfl, hS8.out.same 10 (by decide) (fun h => by omega), (fun h => f0.out (lk h (by decide))), (fun h => f1.out (lk h (by decide))), (fun h => f2.out (lk h (by decide))), (fun h => f3.out (lk h (by decide))), (fun h => f4.out (lk h (by decide))), (fun h => f5.out (lk h (by decide))), (fun _ => rfl), (fun h => f7.out (lk h (by decide))), (fun h => f8.out (lk h (by decide))), (fun h => f9.out (lk h (by decide))), (fun _ => rfl), (fun h => f11.out (lk h (by decide))), (fun h => f12.out (lk h (by decide))), (fun h => f14.out (lk h (by decide))), (fun h => f16.out (lk h (by decide)))⟩
    · clear hdep
      refine wpOp_step rfl (fun K' hKK => ?_)
      replace hKK := hide hKK
      go_simp
      refine hKK.out _ _ ?_
      exact ⟨_, _, _, _, _, _, _, _, _, _, _, _, _, _, _, w₁.heap.size, X7, ra, rl, rc, qa, ql, qc, rfl, hS8.out.al5 hLi, (fun h => f0.out (lk h (by decide))), (fun h => f1.out (lk h (by decide))), (fun h => f2.out (lk h (by decide))), (fun h => f3.out (lk h (by decide))), (fun h => f4.out (lk h (by decide))), (fun h => f5.out (lk h (by decide))), (fun h => f6.out (lk h (by decide))), (fun h => f7.out (lk h (by decide))), (fun h => f8.out (lk h (by decide))), (fun h => f9.out (lk h (by decide))), (fun h => f10.out (lk h (by decide))), (fun _ => rfl), (fun h => f12.out (lk h (by decide))), (fun h => f14.out (lk h (by decide))), (fun h => f16.out (lk h (by decide)))⟩
    · clear hdep
      refine wpOp_step rfl (fun K' hKK => ?_)
      replace hKK := hide hKK
      go_simp
      refine hKK.out _ _ ?_
      exact ⟨_, _, _, _, _, _, _, _, _, _, _, _, _, _, _, X5, w₁.heap.size, ra, rl, rc, qa, ql, qc, rfl, hS8.out.al7 hLi, (fun h => f0.out (lk h (by decide))), (fun h => f1.out (lk h (by decide))), (fun h => f2.out (lk h (by decide))), (fun h => f3.out (lk h (by decide))), (fun h => f4.out (lk h (by decide))), (fun h => f5.out (lk h (by decide))), (fun h => f6.out (lk h (by decide))), (fun h => f7.out (lk h (by decide))), (fun h => f8.out (lk h (by decide))), (fun h => f9.out (lk h (by decide))), (fun h => f10.out (lk h (by decide))), (fun h => f11.out (lk h (by decide))), (fun _ => rfl), (fun h => f14.out (lk h (by decide))), (fun h => f16.out (lk h (by decide)))⟩
    · have l11 : L 11 = true := hdep _ rfl ⟨11, .data⟩ (by simp) (by rfl)
      have l7 : L 7 = true := hdep _ rfl ⟨7, .data⟩ (by simp) (by rfl)
      have l5 : L 5 = true := hdep _ rfl ⟨5, .chain⟩ (by simp) (by rfl)
      clear hdep
      obtain rfl := f11.out l11
      obtain rfl := f7.out l7
      obtain ⟨hbl, hs8⟩ := hS8.out.st5 l5 l11 hLi
      refine wpOp_step rfl (fun K' hKK => ?_)
      replace hKK := hide hKK
      refine step_store rfl _ _ rfl X5 rfl un _ _ _ rfl _ _ hbl ?_
      try go_simp
      refine hKK.out _ _ ?_
      exact ⟨_, _, _, _, _, _, _, _, _, _, _, _, _, _, _, X5, X7, ra, rl, rc, qa, ql, qc, rfl, hs8, (fun h => f0.out (lk h (by decide))), (fun h => f1.out (lk h (by decide))), (fun h => f2.out (lk h (by decide))), (fun h => f3.out (lk h (by decide))), (fun h => f4.out (lk h (by decide))), (fun h => f5.out (lk h (by decide))), (fun h => f6.out (lk h (by decide))), (fun _ => rfl), (fun h => f8.out (lk h (by decide))), (fun h => f9.out (lk h (by decide))), (fun h => f10.out (lk h (by decide))), (fun _ => rfl), (fun h => f12.out (lk h (by decide))), (fun h => f14.out (lk h (by decide))), (fun h => f16.out (lk h (by decide)))⟩
    · have l8 : L 8 = true := hdep _ rfl ⟨8, .data⟩ (by simp) (by rfl)
      clear hdep
      obtain rfl := f8.out l8
      refine wpOp_step rfl (fun K' hKK => ?_)
      replace hKK := hide hKK
      go_simp
      refine hKK.out _ _ ?_
      exact ⟨_, _, _, _, _, _, _, _, _, _, _, _, _, _, _, X5, X7, ra, rl, rc, qa, ql, qc, rfl, hS8.out.same 14 (by decide) (fun h => by omega), (fun h => f0.out (lk h (by decide))), (fun h => f1.out (lk h (by decide))), (fun h => f2.out (lk h (by decide))), (fun h => f3.out (lk h (by decide))), (fun h => f4.out (lk h (by decide))), (fun h => f5.out (lk h (by decide))), (fun h => f6.out (lk h (by decide))), (fun h => f7.out (lk h (by decide))), (fun _ => rfl), (fun h => f9.out (lk h (by decide))), (fun h => f10.out (lk h (by decide))), (fun h => f11.out (lk h (by decide))), (fun h => f12.out (lk h (by decide))), (fun _ => rfl), (fun h => f16.out (lk h (by decide)))⟩
    · have l12 : L 12 = true := hdep _ rfl ⟨12, .data⟩ (by simp) (by rfl)
      have l9 : L 9 = true := hdep _ rfl ⟨9, .data⟩ (by simp) (by rfl)
      have l5 : L 5 = true := hdep _ rfl ⟨5, .phase⟩ (by simp) (by rfl)
      clear hdep
      obtain rfl := f12.out l12
      obtain rfl := f9.out l9
      obtain ⟨hbl, hs8⟩ := hS8.out.st7 l5 l12 hLi
      refine wpOp_step rfl (fun K' hKK => ?_)
      replace hKK := hide hKK
      refine step_store rfl _ _ rfl X7 rfl un _ _ _ rfl _ _ hbl ?_
      try go_simp
      refine hKK.out _ _ ?_
      exact ⟨_, _, _, _, _, _, _, _, _, _, _, _, _, _, _, X5, X7, ra, rl, rc, qa, ql, qc, rfl, hs8, (fun h => f0.out (lk h (by decide))), (fun h => f1.out (lk h (by decide))), (fun h => f2.out (lk h (by decide))), (fun h => f3.out (lk h (by decide))), (fun h => f4.out (lk h (by decide))), (fun h => f5.out (lk h (by decide))), (fun h => f6.out (lk h (by decide))), (fun h => f7.out (lk h (by decide))), (fun h => f8.out (lk h (by decide))), (fun _ => rfl), (fun h => f10.out (lk h (by decide))), (fun h => f11.out (lk h (by decide))), (fun _ => rfl), (fun h => f14.out (lk h (by decide))), (fun h => f16.out (lk h (by decide)))⟩
    · have l10 : L 10 = true := hdep _ rfl ⟨10, .data⟩ (by simp) (by rfl)
      clear hdep
      obtain rfl := f10.out l10
      refine wpOp_step rfl (fun K' hKK => ?_)
      replace hKK := hide hKK
      go_simp
      refine hKK.out _ _ ?_
      exact ⟨_, _, _, _, _, _, _, _, _, _, _, _, _, _, _, X5, X7, ra, rl, rc, qa, ql, qc, rfl, hS8.out.same 16 (by decide) (fun h => by omega), (fun h => f0.out (lk h (by decide))), (fun h => f1.out (lk h (by decide))), (fun h => f2.out (lk h (by decide))), (fun h => f3.out (lk h (by decide))), (fun h => f4.out (lk h (by decide))), (fun h => f5.out (lk h (by decide))), (fun h => f6.out (lk h (by decide))), (fun h => f7.out (lk h (by decide))), (fun h => f8.out (lk h (by decide))), (fun h => f9.out (lk h (by decide))), (fun _ => rfl), (fun h => f11.out (lk h (by decide))), (fun h => f12.out (lk h (by decide))), (fun h => f14.out (lk h (by decide))), (fun _ => rfl)⟩
  intro L a₁ w₁ hall hI
  obtain ⟨x35, x36, x37, x38, x39, x40, x34, x41, x42, x43, x44, x5, x7, x6, x8, X5, X7, ra, rl, rc, qa, ql, qc, ha, hS8, hI⟩ := hI
  subst ha
  obtain ⟨f0, f1, f2, f3, f4, f5, f6, f7, f8, f9, f10, f11, f12, f14, f16⟩ := hI
  have l5 := hall 5 (by decide)
  have l11 := hall 11 (by decide)
  have l12 := hall 12 (by decide)
  have l13 := hall 13 (by decide)
  have l15 := hall 15 (by decide)
  obtain rfl := f0 (hall 0 (by decide))
  obtain rfl := f1 (hall 1 (by decide))
  obtain rfl := f2 (hall 2 (by decide))
  obtain rfl := f3 (hall 3 (by decide))
  obtain rfl := f4 (hall 4 (by decide))
  obtain rfl := f5 (hall 5 (by decide))
  obtain rfl := f6 (hall 6 (by decide))
  obtain rfl := f7 (hall 7 (by decide))
  obtain rfl := f8 (hall 8 (by decide))
  obtain rfl := f9 (hall 9 (by decide))
  obtain rfl := f10 (hall 10 (by decide))
  obtain rfl := f11 (hall 11 (by decide))
  obtain rfl := f12 (hall 12 (by decide))
  obtain rfl := f14 (hall 14 (by decide))
  obtain rfl := f16 (hall 16 (by decide))
  obtain ⟨b51, b52, b53⟩ := hS8.b5 l11
  obtain ⟨b71, b72, b73⟩ := hS8.b7 l12
  rw [if_pos l13] at b53
  rw [if_pos l15] at b73
  exact hQ _ _ _ _ _ _ _ _ _ hS8.low (hS8.tree1 l5).1 (hS8.tree1 l5).2 b53 b73
end Go.Proofs.Ytnikmbkkhfmbeaa
namespace Go.Proofs.Ytnikmbkkhfmbeaa
open Go.RowKit Go.Sort
set_option linter.unusedVariables false

def rs9 (c : Code) : Code := d112 (d212 (d212 (d212 (d112 (d112 (d212 (d112 (d112 (d212 (d112 (d212 (d212 c))))))))))))
set_option maxHeartbeats 4000000 in
set_option maxRecDepth 100000 in
theorem sa9 {w : World} {b o len cap k X4 X5 X7 : Nat} {er : Int} {nd tn un : Nd} {sl ts s1 s2 : Value} (p0 : (k : Int) < (len : Int))
    (SS : Hid (∀ w', Below w.heap.size w w' → Blk w' X5 (exC un s1) 29 ∧ Blk w' X7 (exC un s2) 29 ∧ Blk w' X4 (exC tn ts) 29 ∧ w'.rangeAt b (o + k * 17 + 1) (exC nd sl).toList)) (HE : Hid (∀ w', Below w.heap.size w w' → Calls Try.prog 9 #[exV un s1, exV un s2] w' fun e w'' => e = .returned (.bool true) ∧ Below w'.heap.size w' w'')) (HK : Hid (∀ w', Below w.heap.size w w' → Calls Try.prog 10 #[exV tn ts, exV nd sl] w' fun e w'' => e = .returned (.bool true) ∧ Below w'.heap.size w' w''))
    {Q : Exit → Act → World → Prop} {u1 u2 u9 u10 u11 u12 u13 u14 u15 u16 u17 u18 u19 u20 u21 u22 u23 u24 u25 u26 u27 u28 u29 u30 u31 u32 u33 u34 u35 u36 u37 u38 u39 u40 u41 u42 u43 u44 u45 u46 u47 u48 u49 u50 u51 u52 u53 u54 u55 u56 u57 u58 u59 u60 u61 u62 u63 : Value}
    (hQ : ∀ (w' : World), Below w.heap.size w w' → Q .normal ⟨#[.slice (some ⟨b, o, none⟩) len cap, u1, u2, .int .i64 (k : Int), .pointer (some ⟨X4, 0, none⟩), .pointer (some ⟨X5, 0, none⟩), .int .i64 er, .pointer (some ⟨X7, 0, none⟩), .int .i64 er, u9, u10, u11, u12, u13, u14, u15, u16, u17, u18, u19, u20, u21, u22, u23, u24, u25, u26, u27, u28, u29, u30, u31, u32, u33, u34, u35, u36, u37, u38, u39, u40, u41, u42, u43, u44, .int .i64 er, .int .i64 er, .bool false, .bool false, exV un s1, exV un s2, .bool true, .bool false, .bool false, .bool false, exV tn ts, .slice (some ⟨b, o, none⟩) len cap, .int .i64 (k : Int), .pointer (some ⟨b, o + k * 17, none⟩), .pointer (some ⟨b, o + k * 17 + 1, none⟩), exV nd sl, .bool true, .bool false, .bool false], []⟩ w') :
    (rs9 (Try.f3.body.getD .skip)).wp Try.prog Q ⟨#[.slice (some ⟨b, o, none⟩) len cap, u1, u2, .int .i64 (k : Int), .pointer (some ⟨X4, 0, none⟩), .pointer (some ⟨X5, 0, none⟩), .int .i64 er, .pointer (some ⟨X7, 0, none⟩), .int .i64 er, u9, u10, u11, u12, u13, u14, u15, u16, u17, u18, u19, u20, u21, u22, u23, u24, u25, u26, u27, u28, u29, u30, u31, u32, u33, u34, u35, u36, u37, u38, u39, u40, u41, u42, u43, u44, u45, u46, u47, u48, u49, u50, u51, u52, u53, u54, u55, u56, u57, u58, u59, u60, u61, u62, u63], []⟩ w := by
  dsimp only [Try.f3, Option.getD, rs9, d112, d212]
  refine region_inv (fun (L : Nat → Bool) (a₁ : Act) (w₁ : World) => ∃ (x45 x46 x47 x48 x49 x50 x51 x52 x53 x54 x55 x56 x57 x58 x59 x60 x61 x62 x63 : Value), a₁ = ⟨#[.slice (some ⟨b, o, none⟩) len cap, u1, u2, .int .i64 (k : Int), .pointer (some ⟨X4, 0, none⟩), .pointer (some ⟨X5, 0, none⟩), .int .i64 er, .pointer (some ⟨X7, 0, none⟩), .int .i64 er, u9, u10, u11, u12, u13, u14, u15, u16, u17, u18, u19, u20, u21, u22, u23, u24, u25, u26, u27, u28, u29, u30, u31, u32, u33, u34, u35, u36, u37, u38, u39, u40, u41, u42, u43, u44, x45, x46, x47, x48, x49, x50, x51, x52, x53, x54, x55, x56, x57, x58, x59, x60, x61, x62, x63], []⟩ ∧ Below w.heap.size w w₁ ∧ (L 0 = true → x45 = .int .i64 er) ∧ (L 1 = true → x46 = .int .i64 er) ∧ (L 2 = true → x47 = .bool false) ∧ (L 3 = true → x48 = .bool false) ∧ (L 4 = true → x49 = exV un s1) ∧ (L 5 = true → x50 = exV un s2) ∧ (L 6 = true → x51 = .bool true) ∧ (L 7 = true → x52 = .bool false) ∧ (L 8 = true → x53 = .bool false) ∧ (L 9 = true → x54 = .bool false) ∧ (L 10 = true → x55 = exV tn ts) ∧ (L 11 = true → x56 = .slice (some ⟨b, o, none⟩) len cap) ∧ (L 12 = true → x57 = .int .i64 (k : Int)) ∧ (L 13 = true → x58 = .pointer (some ⟨b, o + k * 17, none⟩)) ∧ (L 14 = true → x59 = .pointer (some ⟨b, o + k * 17 + 1, none⟩)) ∧ (L 15 = true → x60 = exV nd sl) ∧ (L 16 = true → x61 = .bool true) ∧ (L 17 = true → x62 = .bool false) ∧ (L 18 = true → x63 = .bool false)) (by kernel_rfl) (by kernel_rfl) ?_ ?_ ?_
  · exact ⟨_, _, _, _, _, _, _, _, _, _, _, _, _, _, _, _, _, _, _, rfl, (Below.refl _ _).drew, fun h => absurd h (by decide), fun h => absurd h (by decide), fun h => absurd h (by decide), fun h => absurd h (by decide), fun h => absurd h (by decide), fun h => absurd h (by decide), fun h => absurd h (by decide), fun h => absurd h (by decide), fun h => absurd h (by decide), fun h => absurd h (by decide), fun h => absurd h (by decide), fun h => absurd h (by decide), fun h => absurd h (by decide), fun h => absurd h (by decide), fun h => absurd h (by decide), fun h => absurd h (by decide), fun h => absurd h (by decide), fun h => absurd h (by decide), fun h => absurd h (by decide)⟩
  · intro i hi L a₁ w₁ hI hLi hdep
    obtain ⟨x45, x46, x47, x48, x49, x50, x51, x52, x53, x54, x55, x56, x57, x58, x59, x60, x61, x62, x63, ha, hB, hI⟩ := hI
    subst ha
    obtain ⟨f0, f1, f2, f3, f4, f5, f6, f7, f8, f9, f10, f11, f12, f13, f14, f15, f16, f17, f18⟩ := hI
    replace f0 := hide f0
    replace f1 := hide f1
    replace f2 := hide f2
    replace f3 := hide f3
    replace f4 := hide f4
    replace f5 := hide f5
    replace f6 := hide f6
    replace f7 := hide f7
    replace f8 := hide f8
    replace f9 := hide f9
    replace f10 := hide f10
    replace f11 := hide f11
    replace f12 := hide f12
    replace f13 := hide f13
    replace f14 := hide f14
    replace f15 := hide f15
    replace f16 := hide f16
    replace f17 := hide f17
    replace f18 := hide f18
    replace hB := hide hB
    have hiN : i < 19 := hi
    clear hi
    have hcases : i = 0 ∨ i = 1 ∨ i = 2 ∨ i = 3 ∨ i = 4 ∨ i = 5 ∨ i = 6 ∨ i = 7 ∨ i = 8 ∨ i = 9 ∨ i = 10 ∨ i = 11 ∨ i = 12 ∨ i = 13 ∨ i = 14 ∨ i = 15 ∨ i = 16 ∨ i = 17 ∨ i = 18 := (show ∀ i, i < 19 → (i = 0 ∨ i = 1 ∨ i = 2 ∨ i = 3 ∨ i = 4 ∨ i = 5 ∨ i = 6 ∨ i = 7 ∨ i = 8 ∨ i = 9 ∨ i = 10 ∨ i = 11 ∨ i = 12 ∨ i = 13 ∨ i = 14 ∨ i = 15 ∨ i = 16 ∨ i = 17 ∨ i = 18) by decide +kernel) i hiN
    clear hiN
    rcases hcases with rfl | rfl | rfl | rfl | rfl | rfl | rfl | rfl | rfl | rfl | rfl | rfl | rfl | rfl | rfl | rfl | rfl | rfl | rfl
    · clear hdep
      refine wpOp_step rfl (fun K' hKK => ?_)
      replace hKK := hide hKK
      go_simp
      refine hKK.out _ _ ?_
      exact ⟨_, _, _, _, _, _, _, _, _, _, _, _, _, _, _, _, _, _, _, rfl, hB.out, (fun _ => rfl), (fun h => f1.out (lk h (by decide))), (fun h => f2.out (lk h (by decide))), (fun h => f3.out (lk h (by decide))), (fun h => f4.out (lk h (by decide))), (fun h => f5.out (lk h (by decide))), (fun h => f6.out (lk h (by decide))), (fun h => f7.out (lk h (by decide))), (fun h => f8.out (lk h (by decide))), (fun h => f9.out (lk h (by decide))), (fun h => f10.out (lk h (by decide))), (fun h => f11.out (lk h (by decide))), (fun h => f12.out (lk h (by decide))), (fun h => f13.out (lk h (by decide))), (fun h => f14.out (lk h (by decide))), (fun h => f15.out (lk h (by decide))), (fun h => f16.out (lk h (by decide))), (fun h => f17.out (lk h (by decide))), (fun h => f18.out (lk h (by decide)))⟩
    · clear hdep
      refine wpOp_step rfl (fun K' hKK => ?_)
      replace hKK := hide hKK
      go_simp
      refine hKK.out _ _ ?_
      exact ⟨_, _, _, _, _, _, _, _, _, _, _, _, _, _, _, _, _, _, _, rfl, hB.out, (fun h => f0.out (lk h (by decide))), (fun _ => rfl), (fun h => f2.out (lk h (by decide))), (fun h => f3.out (lk h (by decide))), (fun h => f4.out (lk h (by decide))), (fun h => f5.out (lk h (by decide))), (fun h => f6.out (lk h (by decide))), (fun h => f7.out (lk h (by decide))), (fun h => f8.out (lk h (by decide))), (fun h => f9.out (lk h (by decide))), (fun h => f10.out (lk h (by decide))), (fun h => f11.out (lk h (by decide))), (fun h => f12.out (lk h (by decide))), (fun h => f13.out (lk h (by decide))), (fun h => f14.out (lk h (by decide))), (fun h => f15.out (lk h (by decide))), (fun h => f16.out (lk h (by decide))), (fun h => f17.out (lk h (by decide))), (fun h => f18.out (lk h (by decide)))⟩
    · have l0 : L 0 = true := hdep _ rfl ⟨0, .data⟩ (by simp) (by rfl)
      have l1 : L 1 = true := hdep _ rfl ⟨1, .data⟩ (by simp) (by rfl)
      clear hdep
      obtain rfl := f0.out l0
      obtain rfl := f1.out l1
      refine wpOp_step rfl (fun K' hKK => ?_)
      replace hKK := hide hKK
      go_simp
      refine hKK.out _ _ ?_
      exact ⟨_, _, _, _, _, _, _, _, _, _, _, _, _, _, _, _, _, _, _, rfl, hB.out, (fun _ => rfl), (fun _ => rfl), (fun _ => rfl), (fun h => f3.out (lk h (by decide))), (fun h => f4.out (lk h (by decide))), (fun h => f5.out (lk h (by decide))), (fun h => f6.out (lk h (by decide))), (fun h => f7.out (lk h (by decide))), (fun h => f8.out (lk h (by decide))), (fun h => f9.out (lk h (by decide))), (fun h => f10.out (lk h (by decide))), (fun h => f11.out (lk h (by decide))), (fun h => f12.out (lk h (by decide))), (fun h => f13.out (lk h (by decide))), (fun h => f14.out (lk h (by decide))), (fun h => f15.out (lk h (by decide))), (fun h => f16.out (lk h (by decide))), (fun h => f17.out (lk h (by decide))), (fun h => f18.out (lk h (by decide)))⟩
    · have l2 : L 2 = true := hdep _ rfl ⟨2, .data⟩ (by simp) (by rfl)
      clear hdep
      obtain rfl := f2.out l2
      refine wpOp_step rfl (fun K' hKK => ?_)
      replace hKK := hide hKK
      go_simp
      refine hKK.out _ _ ?_
      exact ⟨_, _, _, _, _, _, _, _, _, _, _, _, _, _, _, _, _, _, _, rfl, hB.out, (fun h => f0.out (lk h (by decide))), (fun h => f1.out (lk h (by decide))), (fun _ => rfl), (fun _ => rfl), (fun h => f4.out (lk h (by decide))), (fun h => f5.out (lk h (by decide))), (fun h => f6.out (lk h (by decide))), (fun h => f7.out (lk h (by decide))), (fun h => f8.out (lk h (by decide))), (fun h => f9.out (lk h (by decide))), (fun h => f10.out (lk h (by decide))), (fun h => f11.out (lk h (by decide))), (fun h => f12.out (lk h (by decide))), (fun h => f13.out (lk h (by decide))), (fun h => f14.out (lk h (by decide))), (fun h => f15.out (lk h (by decide))), (fun h => f16.out (lk h (by decide))), (fun h => f17.out (lk h (by decide))), (fun h => f18.out (lk h (by decide)))⟩
    · have l3 : L 3 = true := hdep _ rfl ⟨3, .guard⟩ (by simp) (by rfl)
      clear hdep
      obtain rfl := f3.out l3
      have hld := (SS.out _ hB.out).1
      refine wpOp_step rfl (fun K' hKK => ?_)
      replace hKK := hide hKK
      refine step_loadW (by rfl) _ rfl X5 rfl un s1 hld ?_
      try go_simp
      refine hKK.out _ _ ?_
      exact ⟨_, _, _, _, _, _, _, _, _, _, _, _, _, _, _, _, _, _, _, rfl, hB.out, (fun h => f0.out (lk h (by decide))), (fun h => f1.out (lk h (by decide))), (fun h => f2.out (lk h (by decide))), (fun _ => rfl), (fun _ => rfl), (fun h => f5.out (lk h (by decide))), (fun h => f6.out (lk h (by decide))), (fun h => f7.out (lk h (by decide))), (fun h => f8.out (lk h (by decide))), (fun h => f9.out (lk h (by decide))), (fun h => f10.out (lk h (by decide))), (fun h => f11.out (lk h (by decide))), (fun h => f12.out (lk h (by decide))), (fun h => f13.out (lk h (by decide))), (fun h => f14.out (lk h (by decide))), (fun h => f15.out (lk h (by decide))), (fun h => f16.out (lk h (by decide))), (fun h => f17.out (lk h (by decide))), (fun h => f18.out (lk h (by decide)))⟩
    · have l3 : L 3 = true := hdep _ rfl ⟨3, .guard⟩ (by simp) (by rfl)
      clear hdep
      obtain rfl := f3.out l3
      have hld := (SS.out _ hB.out).2.1
      refine wpOp_step rfl (fun K' hKK => ?_)
      replace hKK := hide hKK
      refine step_loadW (by rfl) _ rfl X7 rfl un s2 hld ?_
      try go_simp
      refine hKK.out _ _ ?_
      exact ⟨_, _, _, _, _, _, _, _, _, _, _, _, _, _, _, _, _, _, _, rfl, hB.out, (fun h => f0.out (lk h (by decide))), (fun h => f1.out (lk h (by decide))), (fun h => f2.out (lk h (by decide))), (fun _ => rfl), (fun h => f4.out (lk h (by decide))), (fun _ => rfl), (fun h => f6.out (lk h (by decide))), (fun h => f7.out (lk h (by decide))), (fun h => f8.out (lk h (by decide))), (fun h => f9.out (lk h (by decide))), (fun h => f10.out (lk h (by decide))), (fun h => f11.out (lk h (by decide))), (fun h => f12.out (lk h (by decide))), (fun h => f13.out (lk h (by decide))), (fun h => f14.out (lk h (by decide))), (fun h => f15.out (lk h (by decide))), (fun h => f16.out (lk h (by decide))), (fun h => f17.out (lk h (by decide))), (fun h => f18.out (lk h (by decide)))⟩
    · have l4 : L 4 = true := hdep _ rfl ⟨4, .data⟩ (by simp) (by rfl)
      have l5 : L 5 = true := hdep _ rfl ⟨5, .data⟩ (by simp) (by rfl)
      have l3 : L 3 = true := hdep _ rfl ⟨3, .guard⟩ (by simp) (by rfl)
      clear hdep
      obtain rfl := f4.out l4
      obtain rfl := f5.out l5
      obtain rfl := f3.out l3
      refine wpOp_step rfl (fun K' hKK => ?_)
      replace hKK := hide hKK
      go_simp
      go_wp2_with (refine (HE.out _ hB.out).mono ?_; rintro e w5 ⟨rfl, hb5⟩)
      refine hKK.out _ _ ?_
      exact ⟨_, _, _, _, _, _, _, _, _, _, _, _, _, _, _, _, _, _, _, rfl, next hB.out hb5, (fun h => f0.out (lk h (by decide))), (fun h => f1.out (lk h (by decide))), (fun h => f2.out (lk h (by decide))), (fun _ => rfl), (fun _ => rfl), (fun _ => rfl), (fun _ => rfl), (fun h => f7.out (lk h (by decide))), (fun h => f8.out (lk h (by decide))), (fun h => f9.out (lk h (by decide))), (fun h => f10.out (lk h (by decide))), (fun h => f11.out (lk h (by decide))), (fun h => f12.out (lk h (by decide))), (fun h => f13.out (lk h (by decide))), (fun h => f14.out (lk h (by decide))), (fun h => f15.out (lk h (by decide))), (fun h => f16.out (lk h (by decide))), (fun h => f17.out (lk h (by decide))), (fun h => f18.out (lk h (by decide)))⟩
    · have l6 : L 6 = true := hdep _ rfl ⟨6, .data⟩ (by simp) (by rfl)
      have l3 : L 3 = true := hdep _ rfl ⟨3, .guard⟩ (by simp) (by rfl)
      clear hdep
      obtain rfl := f6.out l6
      obtain rfl := f3.out l3
      refine wpOp_step rfl (fun K' hKK => ?_)
      replace hKK := hide hKK
      go_simp
      refine hKK.out _ _ ?_
      exact ⟨_, _, _, _, _, _, _, _, _, _, _, _, _, _, _, _, _, _, _, rfl, hB.out, (fun h => f0.out (lk h (by decide))), (fun h => f1.out (lk h (by decide))), (fun h => f2.out (lk h (by decide))), (fun _ => rfl), (fun h => f4.out (lk h (by decide))), (fun h => f5.out (lk h (by decide))), (fun _ => rfl), (fun _ => rfl), (fun h => f8.out (lk h (by decide))), (fun h => f9.out (lk h (by decide))), (fun h => f10.out (lk h (by decide))), (fun h => f11.out (lk h (by decide))), (fun h => f12.out (lk h (by decide))), (fun h => f13.out (lk h (by decide))), (fun h => f14.out (lk h (by decide))), (fun h => f15.out (lk h (by decide))), (fun h => f16.out (lk h (by decide))), (fun h => f17.out (lk h (by decide))), (fun h => f18.out (lk h (by decide)))⟩
    · have l3 : L 3 = true := hdep _ rfl ⟨3, .data⟩ (by simp) (by rfl)
      have l7 : L 7 = true := hdep _ rfl ⟨7, .data⟩ (by simp) (by rfl)
      clear hdep
      obtain rfl := f3.out l3
      obtain rfl := f7.out l7
      refine wpOp_step rfl (fun K' hKK => ?_)
      replace hKK := hide hKK
      go_simp
      refine hKK.out _ _ ?_
      exact ⟨_, _, _, _, _, _, _, _, _, _, _, _, _, _, _, _, _, _, _, rfl, hB.out, (fun h => f0.out (lk h (by decide))), (fun h => f1.out (lk h (by decide))), (fun h => f2.out (lk h (by decide))), (fun _ => rfl), (fun h => f4.out (lk h (by decide))), (fun h => f5.out (lk h (by decide))), (fun h => f6.out (lk h (by decide))), (fun _ => rfl), (fun _ => rfl), (fun h => f9.out (lk h (by decide))), (fun h => f10.out (lk h (by decide))), (fun h => f11.out (lk h (by decide))), (fun h => f12.out (lk h (by decide))), (fun h => f13.out (lk h (by decide))), (fun h => f14.out (lk h (by decide))), (fun h => f15.out (lk h (by decide))), (fun h => f16.out (lk h (by decide))), (fun h => f17.out (lk h (by decide))), (fun h => f18.out (lk h (by decide)))⟩
    · have l8 : L 8 = true := hdep _ rfl ⟨8, .data⟩ (by simp) (by rfl)
      clear hdep
      obtain rfl := f8.out l8
      refine wpOp_step rfl (fun K' hKK => ?_)
      replace hKK := hide hKK
      go_simp
      refine hKK.out _ _ ?_
      exact ⟨_, _, _, _, _, _, _, _, _, _, _, _, _, _, _, _, _, _, _, rfl, hB.out, (fun h => f0.out (lk h (by decide))), (fun h => f1.out (lk h (by decide))), (fun h => f2.out (lk h (by decide))), (fun h => f3.out (lk h (by decide))), (fun h => f4.out (lk h (by decide))), (fun h => f5.out (lk h (by decide))), (fun h => f6.out (lk h (by decide))), (fun h => f7.out (lk h (by decide))), (fun _ => rfl), (fun _ => rfl), (fun h => f10.out (lk h (by decide))), (fun h => f11.out (lk h (by decide))), (fun h => f12.out (lk h (by decide))), (fun h => f13.out (lk h (by decide))), (fun h => f14.out (lk h (by decide))), (fun h => f15.out (lk h (by decide))), (fun h => f16.out (lk h (by decide))), (fun h => f17.out (lk h (by decide))), (fun h => f18.out (lk h (by decide)))⟩
    · have l9 : L 9 = true := hdep _ rfl ⟨9, .guard⟩ (by simp) (by rfl)
      clear hdep
      obtain rfl := f9.out l9
      have hld := (SS.out _ hB.out).2.2.1
      refine wpOp_step rfl (fun K' hKK => ?_)
      replace hKK := hide hKK
      refine step_loadW (by rfl) _ rfl X4 rfl tn ts hld ?_
      try go_simp
      refine hKK.out _ _ ?_
      exact ⟨_, _, _, _, _, _, _, _, _, _, _, _, _, _, _, _, _, _, _, rfl, hB.out, (fun h => f0.out (lk h (by decide))), (fun h => f1.out (lk h (by decide))), (fun h => f2.out (lk h (by decide))), (fun h => f3.out (lk h (by decide))), (fun h => f4.out (lk h (by decide))), (fun h => f5.out (lk h (by decide))), (fun h => f6.out (lk h (by decide))), (fun h => f7.out (lk h (by decide))), (fun h => f8.out (lk h (by decide))), (fun _ => rfl), (fun _ => rfl), (fun h => f11.out (lk h (by decide))), (fun h => f12.out (lk h (by decide))), (fun h => f13.out (lk h (by decide))), (fun h => f14.out (lk h (by decide))), (fun h => f15.out (lk h (by decide))), (fun h => f16.out (lk h (by decide))), (fun h => f17.out (lk h (by decide))), (fun h => f18.out (lk h (by decide)))⟩
    · have l9 : L 9 = true := hdep _ rfl ⟨9, .guard⟩ (by simp) (by rfl)
      clear hdep
      obtain rfl := f9.out l9
      refine wpOp_step rfl (fun K' hKK => ?_)
      replace hKK := hide hKK
      go_simp
      refine hKK.out _ _ ?_
      exact ⟨_, _, _, _, _, _, _, _, _, _, _, _, _, _, _, _, _, _, _, rfl, hB.out, (fun h => f0.out (lk h (by decide))), (fun h => f1.out (lk h (by decide))), (fun h => f2.out (lk h (by decide))), (fun h => f3.out (lk h (by decide))), (fun h => f4.out (lk h (by decide))), (fun h => f5.out (lk h (by decide))), (fun h => f6.out (lk h (by decide))), (fun h => f7.out (lk h (by decide))), (fun h => f8.out (lk h (by decide))), (fun _ => rfl), (fun h => f10.out (lk h (by decide))), (fun _ => rfl), (fun h => f12.out (lk h (by decide))), (fun h => f13.out (lk h (by decide))), (fun h => f14.out (lk h (by decide))), (fun h => f15.out (lk h (by decide))), (fun h => f16.out (lk h (by decide))), (fun h => f17.out (lk h (by decide))), (fun h => f18.out (lk h (by decide)))⟩
    · have l9 : L 9 = true := hdep _ rfl ⟨9, .guard⟩ (by simp) (by rfl)
      clear hdep
      obtain rfl := f9.out l9
      refine wpOp_step rfl (fun K' hKK => ?_)
      replace hKK := hide hKK
      go_simp
      refine hKK.out _ _ ?_
      exact ⟨_, _, _, _, _, _, _, _, _, _, _, _, _, _, _, _, _, _, _, rfl, hB.out, (fun h => f0.out (lk h (by decide))), (fun h => f1.out (lk h (by decide))), (fun h => f2.out (lk h (by decide))), (fun h => f3.out (lk h (by decide))), (fun h => f4.out (lk h (by decide))), (fun h => f5.out (lk h (by decide))), (fun h => f6.out (lk h (by decide))), (fun h => f7.out (lk h (by decide))), (fun h => f8.out (lk h (by decide))), (fun _ => rfl), (fun h => f10.out (lk h (by decide))), (fun h => f11.out (lk h (by decide))), (fun _ => rfl), (fun h => f13.out (lk h (by decide))), (fun h => f14.out (lk h (by decide))), (fun h => f15.out (lk h (by decide))), (fun h => f16.out (lk h (by decide))), (fun h => f17.out (lk h (by decide))), (fun h => f18.out (lk h (by decide)))⟩
    · have l11 : L 11 = true := hdep _ rfl ⟨11, .data⟩ (by simp) (by rfl)
      have l12 : L 12 = true := hdep _ rfl ⟨12, .data⟩ (by simp) (by rfl)
      have l9 : L 9 = true := hdep _ rfl ⟨9, .guard⟩ (by simp) (by rfl)
      clear hdep
      obtain rfl := f11.out l11
      obtain rfl := f12.out l12
      obtain rfl := f9.out l9
      refine wpOp_step rfl (fun K' hKK => ?_)
      replace hKK := hide hKK
      go_simp
      refine hKK.out _ _ ?_
      exact ⟨_, _, _, _, _, _, _, _, _, _, _, _, _, _, _, _, _, _, _, rfl, hB.out, (fun h => f0.out (lk h (by decide))), (fun h => f1.out (lk h (by decide))), (fun h => f2.out (lk h (by decide))), (fun h => f3.out (lk h (by decide))), (fun h => f4.out (lk h (by decide))), (fun h => f5.out (lk h (by decide))), (fun h => f6.out (lk h (by decide))), (fun h => f7.out (lk h (by decide))), (fun h => f8.out (lk h (by decide))), (fun _ => rfl), (fun h => f10.out (lk h (by decide))), (fun _ => rfl), (fun _ => rfl), (fun _ => rfl), (fun h => f14.out (lk h (by decide))), (fun h => f15.out (lk h (by decide))), (fun h => f16.out (lk h (by decide))), (fun h => f17.out (lk h (by decide))), (fun h => f18.out (lk h (by decide)))⟩
    · have l13 : L 13 = true := hdep _ rfl ⟨13, .data⟩ (by simp) (by rfl)
      have l9 : L 9 = true := hdep _ rfl ⟨9, .guard⟩ (by simp) (by rfl)
      clear hdep
      obtain rfl := f13.out l13
      obtain rfl := f9.out l9
      refine wpOp_step rfl (fun K' hKK => ?_)
      replace hKK := hide hKK
      go_simp
      refine hKK.out _ _ ?_
      exact ⟨_, _, _, _, _, _, _, _, _, _, _, _, _, _, _, _, _, _, _, rfl, hB.out, (fun h => f0.out (lk h (by decide))), (fun h => f1.out (lk h (by decide))), (fun h => f2.out (lk h (by decide))), (fun h => f3.out (lk h (by decide))), (fun h => f4.out (lk h (by decide))), (fun h => f5.out (lk h (by decide))), (fun h => f6.out (lk h (by decide))), (fun h => f7.out (lk h (by decide))), (fun h => f8.out (lk h (by decide))), (fun _ => rfl), (fun h => f10.out (lk h (by decide))), (fun h => f11.out (lk h (by decide))), (fun h => f12.out (lk h (by decide))), (fun _ => rfl), (fun _ => rfl), (fun h => f15.out (lk h (by decide))), (fun h => f16.out (lk h (by decide))), (fun h => f17.out (lk h (by decide))), (fun h => f18.out (lk h (by decide)))⟩
    · have l14 : L 14 = true := hdep _ rfl ⟨14, .data⟩ (by simp) (by rfl)
      have l9 : L 9 = true := hdep _ rfl ⟨9, .guard⟩ (by simp) (by rfl)
      clear hdep
      obtain rfl := f14.out l14
      obtain rfl := f9.out l9
      have hld := (SS.out _ hB.out).2.2.2
      refine wpOp_step rfl (fun K' hKK => ?_)
      replace hKK := hide hKK
      refine step_loadM (by rfl) _ rfl b (o + k * 17 + 1) rfl nd sl hld ?_
      try go_simp
      refine hKK.out _ _ ?_
      exact ⟨_, _, _, _, _, _, _, _, _, _, _, _, _, _, _, _, _, _, _, rfl, hB.out, (fun h => f0.out (lk h (by decide))), (fun h => f1.out (lk h (by decide))), (fun h => f2.out (lk h (by decide))), (fun h => f3.out (lk h (by decide))), (fun h => f4.out (lk h (by decide))), (fun h => f5.out (lk h (by decide))), (fun h => f6.out (lk h (by decide))), (fun h => f7.out (lk h (by decide))), (fun h => f8.out (lk h (by decide))), (fun _ => rfl), (fun h => f10.out (lk h (by decide))), (fun h => f11.out (lk h (by decide))), (fun h => f12.out (lk h (by decide))), (fun h => f13.out (lk h (by decide))), (fun _ => rfl), (fun _ => rfl), (fun h => f16.out (lk h (by decide))), (fun h => f17.out (lk h (by decide))), (fun h => f18.out (lk h (by decide)))⟩
    · have l10 : L 10 = true := hdep _ rfl ⟨10, .data⟩ (by simp) (by rfl)
      have l15 : L 15 = true := hdep _ rfl ⟨15, .data⟩ (by simp) (by rfl)
      have l9 : L 9 = true := hdep _ rfl ⟨9, .guard⟩ (by simp) (by rfl)
      clear hdep
      obtain rfl := f10.out l10
      obtain rfl := f15.out l15
      obtain rfl := f9.out l9
      refine wpOp_step rfl (fun K' hKK => ?_)
      replace hKK := hide hKK
      go_simp
      go_wp2_with (refine (HK.out _ hB.out).mono ?_; rintro e w5 ⟨rfl, hb5⟩)
      refine hKK.out _ _ ?_
      exact ⟨_, _, _, _, _, _, _, _, _, _, _, _, _, _, _, _, _, _, _, rfl, next hB.out hb5, (fun h => f0.out (lk h (by decide))), (fun h => f1.out (lk h (by decide))), (fun h => f2.out (lk h (by decide))), (fun h => f3.out (lk h (by decide))), (fun h => f4.out (lk h (by decide))), (fun h => f5.out (lk h (by decide))), (fun h => f6.out (lk h (by decide))), (fun h => f7.out (lk h (by decide))), (fun h => f8.out (lk h (by decide))), (fun _ => rfl), (fun _ => rfl), (fun h => f11.out (lk h (by decide))), (fun h => f12.out (lk h (by decide))), (fun h => f13.out (lk h (by decide))), (fun h => f14.out (lk h (by decide))), (fun _ => rfl), (fun _ => rfl), (fun h => f17.out (lk h (by decide))), (fun h => f18.out (lk h (by decide)))⟩
    · have l16 : L 16 = true := hdep _ rfl ⟨16, .data⟩ (by simp) (by rfl)
      have l9 : L 9 = true := hdep _ rfl ⟨9, .guard⟩ (by simp) (by rfl)
      clear hdep
      obtain rfl := f16.out l16
      obtain rfl := f9.out l9
      refine wpOp_step rfl (fun K' hKK => ?_)
      replace hKK := hide hKK
      go_simp
      refine hKK.out _ _ ?_
      exact ⟨_, _, _, _, _, _, _, _, _, _, _, _, _, _, _, _, _, _, _, rfl, hB.out, (fun h => f0.out (lk h (by decide))), (fun h => f1.out (lk h (by decide))), (fun h => f2.out (lk h (by decide))), (fun h => f3.out (lk h (by decide))), (fun h => f4.out (lk h (by decide))), (fun h => f5.out (lk h (by decide))), (fun h => f6.out (lk h (by decide))), (fun h => f7.out (lk h (by decide))), (fun h => f8.out (lk h (by decide))), (fun _ => rfl), (fun h => f10.out (lk h (by decide))), (fun h => f11.out (lk h (by decide))), (fun h => f12.out (lk h (by decide))), (fun h => f13.out (lk h (by decide))), (fun h => f14.out (lk h (by decide))), (fun h => f15.out (lk h (by decide))), (fun _ => rfl), (fun _ => rfl), (fun h => f18.out (lk h (by decide)))⟩
    · have l9 : L 9 = true := hdep _ rfl ⟨9, .data⟩ (by simp) (by rfl)
      have l17 : L 17 = true := hdep _ rfl ⟨17, .data⟩ (by simp) (by rfl)
      clear hdep
      obtain rfl := f9.out l9
      obtain rfl := f17.out l17
      refine wpOp_step rfl (fun K' hKK => ?_)
      replace hKK := hide hKK
      go_simp
      refine hKK.out _ _ ?_
      exact ⟨_, _, _, _, _, _, _, _, _, _, _, _, _, _, _, _, _, _, _, rfl, hB.out, (fun h => f0.out (lk h (by decide))), (fun h => f1.out (lk h (by decide))), (fun h => f2.out (lk h (by decide))), (fun h => f3.out (lk h (by decide))), (fun h => f4.out (lk h (by decide))), (fun h => f5.out (lk h (by decide))), (fun h => f6.out (lk h (by decide))), (fun h => f7.out (lk h (by decide))), (fun h => f8.out (lk h (by decide))), (fun _ => rfl), (fun h => f10.out (lk h (by decide))), (fun h => f11.out (lk h (by decide))), (fun h => f12.out (lk h (by decide))), (fun h => f13.out (lk h (by decide))), (fun h => f14.out (lk h (by decide))), (fun h => f15.out (lk h (by decide))), (fun h => f16.out (lk h (by decide))), (fun _ => rfl), (fun _ => rfl)⟩
  intro L a₁ w₁ hall hI
  obtain ⟨x45, x46, x47, x48, x49, x50, x51, x52, x53, x54, x55, x56, x57, x58, x59, x60, x61, x62, x63, ha, hB, hI⟩ := hI
  subst ha
  obtain ⟨f0, f1, f2, f3, f4, f5, f6, f7, f8, f9, f10, f11, f12, f13, f14, f15, f16, f17, f18⟩ := hI
  obtain rfl := f0 (hall 0 (by decide))
  obtain rfl := f1 (hall 1 (by decide))
  obtain rfl := f2 (hall 2 (by decide))
  obtain rfl := f3 (hall 3 (by decide))
  obtain rfl := f4 (hall 4 (by decide))
  obtain rfl := f5 (hall 5 (by decide))
  obtain rfl := f6 (hall 6 (by decide))
  obtain rfl := f7 (hall 7 (by decide))
  obtain rfl := f8 (hall 8 (by decide))
  obtain rfl := f9 (hall 9 (by decide))
  obtain rfl := f10 (hall 10 (by decide))
  obtain rfl := f11 (hall 11 (by decide))
  obtain rfl := f12 (hall 12 (by decide))
  obtain rfl := f13 (hall 13 (by decide))
  obtain rfl := f14 (hall 14 (by decide))
  obtain rfl := f15 (hall 15 (by decide))
  obtain rfl := f16 (hall 16 (by decide))
  obtain rfl := f17 (hall 17 (by decide))
  obtain rfl := f18 (hall 18 (by decide))
  exact hQ _ hB
end Go.Proofs.Ytnikmbkkhfmbeaa
