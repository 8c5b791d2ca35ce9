/- quadrillelaw12.ShiftPasted's drawn statement: what comes may be, and is bare as what was handed in is. -/
import Derived.Test.YtmgmlpbecodnfaaBr12
import Derived.BigRegion
namespace Go.Proofs.Ytmgmlpbecodnfaa
open Go.RowKit Go.Sort
set_option linter.unusedVariables false

def c112p : Code → Code
  | .seq a _ => a
  | .cond _ a _ => a
  | .block _ b => b
  | .loop b => b
  | c => c
def c212p : Code → Code
  | .seq _ b => b
  | .cond _ _ b => b
  | c => c
def rg6p (c : Code) : Code := c112p (c112p (c212p (c212p (c212p (c212p c)))))
set_option maxHeartbeats 4000000 in
set_option maxRecDepth 100000 in
theorem reg6p {w : World} {xn tn : Nd} {ax ta : Option Addr} {lx cx lt ct bx bt : Nat} {bn : Nd} {bk : List Ex} (XB : Blk w bx (exC xn (.slice ax lx cx)) 29) (TB : Blk w bt (exC tn (.slice ta lt ct)) 29) (hsm : SmE (.mk bn bk))
    (HM : ∀ w', Below w.heap.size w w' → Calls Try.prog 17 #[lit14 xn (.slice ax lx cx)] w' fun e w'' => e = .returned (.int .i64 0) ∧ Below w'.heap.size w' w'')
    (HB1 : ∀ w', Below w.heap.size w w' → Calls Try.prog 18 #[lit14 xn (.slice ax lx cx)] w' fun e w'' => NewP w' (.mk bn bk) e w'')
    (HB2 : ∀ w', Below w.heap.size w w' → Calls Try.prog 18 #[lit14 tn (.slice ta lt ct)] w' fun e w'' => NewP w' (.mk bn bk) e w'') {K K1 : Act → World → Prop} {post : Ending → World → Prop} {u0 u1 u2 u3 u4 u6 u7 u8 u9 u10 u13 u14 u15 u16 u17 u18 u19 u20 u21 u22 u23 u24 u25 u26 u27 u28 u29 u30 u31 u32 u33 u34 u35 u36 u37 u38 u39 u40 u41 u42 u43 u44 u45 u46 u47 u48 u49 u50 u51 u52 u53 u54 u55 u56 u57 u58 u59 u60 u61 u62 u63 u64 u65 u66 u67 u68 u69 u70 u71 u72 u73 u74 u75 u76 u77 u78 u79 u80 u81 u82 u83 u84 u85 u86 u87 u88 u89 u90 u91 u92 u93 u94 u95 u96 u97 u98 u99 u100 u101 u102 u103 u104 u105 u106 u107 u108 u109 u110 u111 u112 u113 u114 u115 u116 u117 u118 u119 u120 u121 u122 u123 u124 u125 u126 u127 u128 u129 u130 u131 u132 u133 u134 u135 u136 u137 u138 u139 u140 u141 u142 u143 u144 u145 : Value}
    (hQ : ∀ (w' : World) (x31 x32 x33 x34 x35 x36 x37 x38 x39 x40 x41 x42 x43 x44 : Value), Below w.heap.size w w' → K ⟨#[u0, u1, u2, u3, u4, .pointer (some ⟨bt, 0, none⟩), u6, u7, u8, u9, u10, .pointer (some ⟨bx, 0, none⟩), .int .i64 0, u13, u14, u15, u16, u17, u18, u19, u20, u21, u22, u23, u24, u25, u26, u27, u28, u29, u30, x31, x32, x33, x34, x35, x36, x37, x38, x39, x40, x41, x42, x43, x44, .bool false, u46, u47, u48, u49, u50, u51, u52, u53, u54, u55, u56, u57, u58, u59, u60, u61, u62, u63, u64, u65, u66, u67, u68, u69, u70, u71, u72, u73, u74, u75, u76, u77, u78, u79, u80, u81, u82, u83, u84, u85, u86, u87, u88, u89, u90, u91, u92, u93, u94, u95, u96, u97, u98, u99, u100, u101, u102, u103, u104, u105, u106, u107, u108, u109, u110, u111, u112, u113, u114, u115, u116, u117, u118, u119, u120, u121, u122, u123, u124, u125, u126, u127, u128, u129, u130, u131, u132, u133, u134, u135, u136, u137, u138, u139, u140, u141, u142, u143, u144, u145], []⟩ w') : (rg6p (Try.f4.body.getD .skip)).wp Try.prog (Exit.then K (Exit.then K1 (bodyPost Try.prog Try.f4 post))) ⟨#[u0, u1, u2, u3, u4, .pointer (some ⟨bt, 0, none⟩), u6, u7, u8, u9, u10, .pointer (some ⟨bx, 0, none⟩), .int .i64 0, u13, u14, u15, u16, u17, u18, u19, u20, u21, u22, u23, u24, u25, u26, u27, u28, u29, u30, u31, u32, u33, u34, u35, u36, u37, u38, u39, u40, u41, u42, u43, u44, u45, u46, u47, u48, u49, u50, u51, u52, u53, u54, u55, u56, u57, u58, u59, u60, u61, u62, u63, u64, u65, u66, u67, u68, u69, u70, u71, u72, u73, u74, u75, u76, u77, u78, u79, u80, u81, u82, u83, u84, u85, u86, u87, u88, u89, u90, u91, u92, u93, u94, u95, u96, u97, u98, u99, u100, u101, u102, u103, u104, u105, u106, u107, u108, u109, u110, u111, u112, u113, u114, u115, u116, u117, u118, u119, u120, u121, u122, u123, u124, u125, u126, u127, u128, u129, u130, u131, u132, u133, u134, u135, u136, u137, u138, u139, u140, u141, u142, u143, u144, u145], []⟩ w := by
  have D0 : Hid (Below w.heap.size w w.drew) := hide (Below.refl w.heap.size w).drew
  obtain ⟨x0, x1, x2, x3, x4, x5, x6, x7, x8, x9, x10, x11, x12, x13⟩ := XB.c14
  obtain ⟨t0, t1, t2, t3, t4, t5, t6, t7, t8, t9, t10, t11, t12, t13⟩ := TB.c14
  replace XB := hide XB
  replace TB := hide TB
  replace HM := hide HM
  replace HB1 := hide HB1
  replace HB2 := hide HB2
  replace hQ := hide hQ
  replace hsm := hide hsm
  have HE := hide (fun v1 v2 w' (h1 : Tree w' v1 (.mk bn bk)) (h2 : Tree w' v2 (.mk bn bk)) => by have := leq_any (.mk bn bk) (.mk bn bk) v1 v2 w' h1 h2; rw [same_selfE] at this; exact this)
  obtain ⟨Q', hQ'⟩ : ∃ Q', Q' = bodyPost Try.prog Try.f4 post := ⟨_, rfl⟩
  rw [← hQ']
  dsimp only [Try.f4, Option.getD, rg6p, c112p, c212p]
  rw [hQ']
  clear hQ'
  go_region_with (first
    | (go_at_call 13; with_reducible refine (HE.out _ _ _ T5.out T6.out).mono ?_; rintro e w7 ⟨rfl, h7⟩; have D7 := hide (next D6.out h7); clear h7)
    | (go_at_call 18; with_reducible refine (HB2.out _ D5.out).mono ?_; intro e w6 hh; obtain ⟨a6, l6, c6, rfl, N6, h6⟩ := newP_tree hh hsm.out; have D6 := hide (next D5.out h6); replace T5 := hide (T5.out.step h6); have T6 := hide N6; clear hh N6 h6)
    | (go_at_call 18; with_reducible refine (HB1.out _ D4.out).mono ?_; intro e w5 hh; obtain ⟨a5, l5, c5, rfl, N5, h5⟩ := newP_tree hh hsm.out; have D5 := hide (next D4.out h5); have T5 := hide N5; obtain ⟨s0, s1, s2, s3, s4, s5, s6, s7, s8, s9, s10, s11, s12, s13⟩ := (TB.out.keep D5.out).c14; clear hh N5 h5)
    | (go_at_call 17; with_reducible refine (HM.out _ D0.out).mono ?_; rintro e w4 ⟨rfl, h4⟩; have D4 := hide (next D0.out h4); obtain ⟨y0, y1, y2, y3, y4, y5, y6, y7, y8, y9, y10, y11, y12, y13⟩ := (XB.out.keep D4.out).c14; obtain ⟨r0, r1, r2, r3, r4, r5, r6, r7, r8, r9, r10, r11, r12, r13⟩ := (TB.out.keep D4.out).c14; clear h4))
  all_goals exact hQ.out _ _ _ _ _ _ _ _ _ _ _ _ _ _ _ D7.out
def rg11p (c : Code) : Code := c112p (c112p (c212p (c212p (c212p (c212p (c212p (c212p (c212p c))))))))
set_option maxHeartbeats 4000000 in
set_option maxRecDepth 100000 in
theorem reg11p {w : World} {a b : Int} {xn tn : Nd} {ax ta : Option Addr} {lx cx lt ct bx bt : Nat} (XB : Blk w bx (exC xn (.slice ax lx cx)) 29) (TB : Blk w bt (exC tn (.slice ta lt ct)) 29)
    (HE : ¬ a = -9223372036854775808 → ¬ b = -9223372036854775808 → Calls Try.prog 13 #[exV xn (.slice ax lx cx), exV tn (.slice ta lt ct)] w fun e w'' => e = .returned (.bool true) ∧ Below w.heap.size w w'') {K K1 : Act → World → Prop} {post : Ending → World → Prop} {u0 u3 u4 u6 u7 u8 u9 u10 u11 u12 u15 u16 u17 u18 u19 u20 u21 u22 u23 u24 u25 u26 u27 u28 u29 u30 u31 u32 u33 u34 u35 u36 u37 u38 u39 u40 u41 u42 u43 u44 u45 u46 u47 u48 u49 u50 u51 u52 u53 u54 u55 u56 u57 u58 u59 u60 u61 u62 u63 u64 u65 u66 u67 u68 u69 u70 u71 u72 u73 u74 u75 u76 u77 u78 u79 u80 u81 u82 u83 u84 u85 u86 u87 u88 u89 u90 u91 u92 u93 u94 u95 u96 u97 u98 u99 u100 u101 u102 u103 u104 u105 u106 u107 u108 u109 u110 u111 u112 u113 u114 u115 u116 u117 u118 u119 u120 u121 u122 u123 u124 u125 u126 u127 u128 u129 u130 u131 u132 u133 u134 u135 u136 u137 u138 u139 u140 u141 u142 u143 u144 u145 : Value}
    (hQ : ∀ (w' : World) (x63 x64 x65 x66 x67 x68 x69 x70 x71 x72 x73 x74 x75 x76 x77 : Value), Below w.heap.size w w' → K ⟨#[u0, .int .i64 a, .int .i64 b, u3, u4, .pointer (some ⟨bt, 0, none⟩), u6, u7, u8, u9, u10, u11, u12, .pointer (some ⟨bx, 0, none⟩), .int .i64 0, u15, u16, u17, u18, u19, u20, u21, u22, u23, u24, u25, u26, u27, u28, u29, u30, u31, u32, u33, u34, u35, u36, u37, u38, u39, u40, u41, u42, u43, u44, u45, u46, u47, u48, u49, u50, u51, u52, u53, u54, u55, u56, u57, u58, u59, u60, u61, u62, x63, x64, x65, x66, x67, x68, x69, x70, x71, x72, x73, x74, x75, x76, x77, .bool false, u79, u80, u81, u82, u83, u84, u85, u86, u87, u88, u89, u90, u91, u92, u93, u94, u95, u96, u97, u98, u99, u100, u101, u102, u103, u104, u105, u106, u107, u108, u109, u110, u111, u112, u113, u114, u115, u116, u117, u118, u119, u120, u121, u122, u123, u124, u125, u126, u127, u128, u129, u130, u131, u132, u133, u134, u135, u136, u137, u138, u139, u140, u141, u142, u143, u144, u145], []⟩ w') : (rg11p (Try.f4.body.getD .skip)).wp Try.prog (Exit.then K (Exit.then K1 (bodyPost Try.prog Try.f4 post))) ⟨#[u0, .int .i64 a, .int .i64 b, u3, u4, .pointer (some ⟨bt, 0, none⟩), u6, u7, u8, u9, u10, u11, u12, .pointer (some ⟨bx, 0, none⟩), .int .i64 0, u15, u16, u17, u18, u19, u20, u21, u22, u23, u24, u25, u26, u27, u28, u29, u30, u31, u32, u33, u34, u35, u36, u37, u38, u39, u40, u41, u42, u43, u44, u45, u46, u47, u48, u49, u50, u51, u52, u53, u54, u55, u56, u57, u58, u59, u60, u61, u62, u63, u64, u65, u66, u67, u68, u69, u70, u71, u72, u73, u74, u75, u76, u77, u78, u79, u80, u81, u82, u83, u84, u85, u86, u87, u88, u89, u90, u91, u92, u93, u94, u95, u96, u97, u98, u99, u100, u101, u102, u103, u104, u105, u106, u107, u108, u109, u110, u111, u112, u113, u114, u115, u116, u117, u118, u119, u120, u121, u122, u123, u124, u125, u126, u127, u128, u129, u130, u131, u132, u133, u134, u135, u136, u137, u138, u139, u140, u141, u142, u143, u144, u145], []⟩ w := by
  replace XB := hide XB
  replace TB := hide TB
  replace HE := hide HE
  replace hQ := hide hQ
  obtain ⟨Q', hQ'⟩ : ∃ Q', Q' = bodyPost Try.prog Try.f4 post := ⟨_, rfl⟩
  rw [← hQ']
  dsimp only [Try.f4, Option.getD, rg11p, c112p, c212p]
  rw [hQ']
  clear hQ'
  by_cases qa : a = -9223372036854775808
  · have ja : (a != -9223372036854775808) = false := by rw [qa]; rfl
    clear qa
    go_wp2_with fail
    exact hQ.out _ _ _ _ _ _ _ _ _ _ _ _ _ _ _ _ (Below.refl _ _)
  · have ja : (a != -9223372036854775808) = true := by simp [qa]
    by_cases qb : b = -9223372036854775808
    · have jb : (b != -9223372036854775808) = false := by rw [qb]; rfl
      clear qb qa
      go_wp2_with fail
      exact hQ.out _ _ _ _ _ _ _ _ _ _ _ _ _ _ _ _ (Below.refl _ _)
    · replace HE := hide (HE.out qa qb)
      have jb : (b != -9223372036854775808) = true := by simp [qb]
      clear qa qb
      go_wp2_with (first
        | (refine wpList_load_blk_g rfl 29 _ rfl _ rfl _ (by with_reducible exact XB.out) _ Try.underlying29 rfl (exC_info _ _) ?_)
        | (refine wpList_load_blk_g rfl 29 _ rfl _ rfl _ (by with_reducible exact TB.out) _ Try.underlying29 rfl (exC_info _ _) ?_)
        | (go_at_call 13; refine HE.out.mono ?_; rintro e w7 ⟨rfl, h7⟩; have D7 := hide h7; clear h7))
      exact hQ.out _ _ _ _ _ _ _ _ _ _ _ _ _ _ _ _ D7.out
end Go.Proofs.Ytmgmlpbecodnfaa
