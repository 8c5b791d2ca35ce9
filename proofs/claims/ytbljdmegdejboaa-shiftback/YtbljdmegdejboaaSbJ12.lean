/- quadrillelaw12.ShiftBack's drawn statement: what comes may be, and is bare as what was handed in is. Small facts that ShiftBack's walk wants; its statement on what stands ahead. -/
import Derived.Test.YtbljdmegdejboaaBr12
import Derived.BigRegion
import Derived.Test.YtbljdmegdejboaaCbJ12
import Derived.Deep.CutRange
namespace Go.Proofs.Ytbljdmegdejboaa
open Go.RowKit Go.Sort
set_option linter.unusedVariables false

def c112b : Code → Code
  | .seq a _ => a
  | .cond _ a _ => a
  | .block _ b => b
  | .loop b => b
  | c => c
def c212b : Code → Code
  | .seq _ b => b
  | .cond _ _ b => b
  | c => c
def rg6b (c : Code) : Code := c112b (c112b (c212b (c212b (c212b (c212b (c212b (c212b (c212b c))))))))
set_option maxHeartbeats 4000000 in
set_option maxRecDepth 100000 in
theorem reg6b {w : World} {xn tn : Nd} {ax ta : Option Addr} {lx cx lt ct bx bt : Nat} {bn : Nd} {bk : List Ex} (XB : Blk w bx (exC xn (.slice ax lx cx)) 29) (TB : Blk w bt (exC tn (.slice ta lt ct)) 29) (hsm : SmE (.mk bn bk))
    (HM : ∀ w', Below w.heap.size w w' → Calls Try.prog 13 #[lit14 xn (.slice ax lx cx)] w' fun e w'' => e = .returned (.int .i64 0) ∧ Below w'.heap.size w' w'')
    (HB1 : ∀ w', Below w.heap.size w w' → Calls Try.prog 14 #[lit14 xn (.slice ax lx cx)] w' fun e w'' => NewP w' (.mk bn bk) e w'')
    (HB2 : ∀ w', Below w.heap.size w w' → Calls Try.prog 14 #[lit14 tn (.slice ta lt ct)] w' fun e w'' => NewP w' (.mk bn bk) e w'') {K K1 : Act → World → Prop} {post : Ending → World → Prop} {u0 u1 u2 u3 u5 u6 u7 u8 u9 u11 u12 u13 u14 u15 u16 u17 u18 u19 u20 u21 u22 u23 u24 u25 u26 u27 u28 u29 u30 u31 u32 u33 u34 u35 u36 u37 u38 u39 u40 u41 u42 u43 u44 u45 u46 u47 u48 u49 u50 u51 u52 u53 u54 u55 u56 u57 u58 u59 u60 u61 u62 u63 u64 u65 u66 u67 u68 u69 u70 u71 u72 u73 u74 u75 u76 u77 u78 u79 u80 u81 u82 u83 u84 u85 u86 u87 u88 u89 u90 u91 u92 u93 u94 u95 u96 u97 u98 u99 u100 u101 u102 u103 u104 u105 u106 u107 u108 u109 u110 u111 u112 u113 u114 u115 u116 : Value}
    (hQ : ∀ (w' : World) (x68 x69 x70 x71 x72 x73 x74 x75 x76 x77 : Value), Below w.heap.size w w' → K ⟨#[u0, u1, u2, u3, .pointer (some ⟨bt, 0, none⟩), u5, u6, u7, u8, u9, .pointer (some ⟨bx, 0, none⟩), u11, u12, u13, u14, u15, u16, u17, u18, u19, u20, u21, u22, u23, u24, u25, u26, u27, u28, u29, u30, u31, u32, u33, u34, u35, u36, u37, u38, u39, u40, u41, u42, u43, u44, u45, u46, u47, u48, u49, u50, u51, u52, u53, u54, u55, u56, u57, u58, u59, u60, u61, u62, u63, u64, u65, u66, u67, x68, x69, x70, x71, x72, x73, x74, x75, x76, x77, .bool false, u79, u80, u81, u82, u83, u84, u85, u86, u87, u88, u89, u90, u91, u92, u93, u94, u95, u96, u97, u98, u99, u100, u101, u102, u103, u104, u105, u106, u107, u108, u109, u110, u111, u112, u113, u114, u115, u116], []⟩ w') : (rg6b (Try.f4.body.getD .skip)).wp Try.prog (Exit.then K (Exit.then K1 (bodyPost Try.prog Try.f4 post))) ⟨#[u0, u1, u2, u3, .pointer (some ⟨bt, 0, none⟩), u5, u6, u7, u8, u9, .pointer (some ⟨bx, 0, none⟩), u11, u12, u13, u14, u15, u16, u17, u18, u19, u20, u21, u22, u23, u24, u25, u26, u27, u28, u29, u30, u31, u32, u33, u34, u35, u36, u37, u38, u39, u40, u41, u42, u43, u44, u45, u46, u47, u48, u49, u50, u51, u52, u53, u54, u55, u56, u57, u58, u59, u60, u61, u62, u63, u64, u65, u66, u67, u68, u69, u70, u71, u72, u73, u74, u75, u76, u77, u78, u79, u80, u81, u82, u83, u84, u85, u86, u87, u88, u89, u90, u91, u92, u93, u94, u95, u96, u97, u98, u99, u100, u101, u102, u103, u104, u105, u106, u107, u108, u109, u110, u111, u112, u113, u114, u115, u116], []⟩ w := by
  have D0 : Hid (Below w.heap.size w w.drew) := hide (Below.refl w.heap.size w).drew
  obtain ⟨x0, x1, x2, x3, x4, x5, x6, x7, x8, x9, x10, x11, x12, x13⟩ := XB.c14
  obtain ⟨t0, t1, t2, t3, t4, t5, t6, t7, t8, t9, t10, t11, t12, t13⟩ := TB.c14
  replace XB := hide XB
  replace TB := hide TB
  replace HM := hide HM
  replace HB1 := hide HB1
  replace HB2 := hide HB2
  replace hQ := hide hQ
  replace hsm := hide hsm
  have HE := hide (fun v1 v2 w' (h1 : Tree w' v1 (.mk bn bk)) (h2 : Tree w' v2 (.mk bn bk)) => by have := leq_any (.mk bn bk) (.mk bn bk) v1 v2 w' h1 h2; rw [same_selfE] at this; exact this)
  obtain ⟨Q', hQ'⟩ : ∃ Q', Q' = bodyPost Try.prog Try.f4 post := ⟨_, rfl⟩
  rw [← hQ']
  dsimp only [Try.f4, Option.getD, rg6b, c112b, c212b]
  rw [hQ']
  clear hQ'
  go_region_with (first
    | (go_at_call 10; with_reducible refine (HE.out _ _ _ T5.out T6.out).mono ?_; rintro e w7 ⟨rfl, h7⟩; have D7 := hide (next D6.out h7); clear h7)
    | (go_at_call 14; with_reducible refine (HB2.out _ D5.out).mono ?_; intro e w6 hh; obtain ⟨a6, l6, c6, rfl, N6, h6⟩ := newP_tree hh hsm.out; have D6 := hide (next D5.out h6); replace T5 := hide (T5.out.step h6); have T6 := hide N6; clear hh N6 h6)
    | (go_at_call 14; with_reducible refine (HB1.out _ D4.out).mono ?_; intro e w5 hh; obtain ⟨a5, l5, c5, rfl, N5, h5⟩ := newP_tree hh hsm.out; have D5 := hide (next D4.out h5); have T5 := hide N5; obtain ⟨s0, s1, s2, s3, s4, s5, s6, s7, s8, s9, s10, s11, s12, s13⟩ := (TB.out.keep D5.out).c14; clear hh N5 h5)
    | (go_at_call 13; with_reducible refine (HM.out _ D0.out).mono ?_; rintro e w4 ⟨rfl, h4⟩; have D4 := hide (next D0.out h4); obtain ⟨y0, y1, y2, y3, y4, y5, y6, y7, y8, y9, y10, y11, y12, y13⟩ := (XB.out.keep D4.out).c14; obtain ⟨r0, r1, r2, r3, r4, r5, r6, r7, r8, r9, r10, r11, r12, r13⟩ := (TB.out.keep D4.out).c14; clear h4))
  all_goals exact hQ.out _ _ _ _ _ _ _ _ _ _ _ D7.out
end Go.Proofs.Ytbljdmegdejboaa
namespace Go.Proofs.Ytbljdmegdejboaa
open Go.RowKit Go.Sort
set_option linter.unusedVariables false

theorem setCells_past (b : Nat) (ob : Obj) : ∀ (vs : List Value) (o : Nat) (w : World), b < w.heap.size → (w.alloc ob).setCells b o vs = (w.setCells b o vs).alloc ob
  | [], _, _, _ => rfl
  | v :: r, o, w, h => by
    rw [World.setCells, World.setCell_alloc_past _ _ _ _ h, setCells_past b ob r (o + 1) _ (by simpa using h), World.setCells]
theorem run_put1 (w : World) (n : Nd) (a : Option Addr) (l c : Nat) (ob : Obj) : (storeCells ⟨w.heap.size, 0, none⟩ (exC n (.slice a l c)).toList).run Try.prog ((w.alloc (.cells #[.int .i64 0, .int .i64 0, .int .i64 0, .string { data := #[] }, .int .i64 0, .int .i64 0, .bool false, .bool false, .int .i64 0, .int .i64 0, .bool false, .bool false, .int .i64 0, .slice none 0 0] 29)).alloc ob) = .ok () ((w.alloc (exO n (.slice a l c))).alloc ob) := by
  have hB : Blk (w.alloc (.cells #[.int .i64 0, .int .i64 0, .int .i64 0, .string { data := #[] }, .int .i64 0, .int .i64 0, .bool false, .bool false, .int .i64 0, .int .i64 0, .bool false, .bool false, .int .i64 0, .slice none 0 0] 29)) w.heap.size #[.int .i64 0, .int .i64 0, .int .i64 0, .string { data := #[] }, .int .i64 0, .int .i64 0, .bool false, .bool false, .int .i64 0, .int .i64 0, .bool false, .bool false, .int .i64 0, .slice none 0 0] 29 := Blk.new w _ _
  have h1 := run_put (P := Try.prog) (w := w.alloc (.cells #[.int .i64 0, .int .i64 0, .int .i64 0, .string { data := #[] }, .int .i64 0, .int .i64 0, .bool false, .bool false, .int .i64 0, .int .i64 0, .bool false, .bool false, .int .i64 0, .slice none 0 0] 29)) (b := w.heap.size) (o := 0) n a l c (there_of_row hB (by decide))
  have h2 := run_putnew w n a l c
  rw [h1] at h2
  have h3 : (w.alloc (.cells #[.int .i64 0, .int .i64 0, .int .i64 0, .string { data := #[] }, .int .i64 0, .int .i64 0, .bool false, .bool false, .int .i64 0, .int .i64 0, .bool false, .bool false, .int .i64 0, .slice none 0 0] 29)).setCells w.heap.size 0 (exC n (.slice a l c)).toList = w.alloc (exO n (.slice a l c)) := by injection h2
  have h4 := run_put (P := Try.prog) (w := (w.alloc (.cells #[.int .i64 0, .int .i64 0, .int .i64 0, .string { data := #[] }, .int .i64 0, .int .i64 0, .bool false, .bool false, .int .i64 0, .int .i64 0, .bool false, .bool false, .int .i64 0, .slice none 0 0] 29)).alloc ob) (b := w.heap.size) (o := 0) n a l c (there_of_row (hB.alloc ob) (by decide))
  rw [h4, setCells_past _ _ _ _ _ (by simp), h3]
theorem run_put2 (w : World) (x : Obj) (n : Nd) (a : Option Addr) (l c : Nat) : (storeCells ⟨w.heap.size + 1, 0, none⟩ (exC n (.slice a l c)).toList).run Try.prog ((w.alloc x).alloc (.cells #[.int .i64 0, .int .i64 0, .int .i64 0, .string { data := #[] }, .int .i64 0, .int .i64 0, .bool false, .bool false, .int .i64 0, .int .i64 0, .bool false, .bool false, .int .i64 0, .slice none 0 0] 29)) = .ok () ((w.alloc x).alloc (exO n (.slice a l c))) := by
  have := run_putnew (w.alloc x) n a l c
  rw [World.size_alloc] at this
  exact this
theorem opX_info (K M N : Int) (n : Nd) (s : Value) : (Try.prog.info? 31).map (·.size) = some (opX K M N n s).size := by show _ = some 17; kernel_rfl
def putL (cs : Array Value) : Nat → List Value → Array Value
  | _, [] => cs
  | o, v :: r => putL (cs.setIfInBounds o v) (o + 1) r
theorem heap_setCellsL (b : Nat) (t : TypeId) : ∀ (vs : List Value) (o : Nat) (w : World) (cs : Array Value), w.heap[b]? = some (.cells cs t (0, 0)) → (w.setCells b o vs).heap[b]? = some (.cells (putL cs o vs) t (0, 0))
  | [], _, _, _, h => h
  | v :: r, o, w, cs, h => by
    rw [World.setCells, putL]
    exact heap_setCellsL b t r (o + 1) _ _ (heap_setCell_same w b o cs t v h)
theorem opX_putL (K M N : Int) (n n' : Nd) (s s' : Value) : putL (opX K M N n s) 1 (exC n' s').toList = opX K M N n' s' := by
  unfold opX exC
  simp [putL]
theorem opX_put {w : World} {b : Nat} {K M N : Int} {n : Nd} {s : Value} (h : w.heap[b]? = some (.cells (opX K M N n s) 31 (0, 0))) (n' : Nd) (s' : Value) : Blk (w.setCells b 1 (exC n' s').toList) b (opX K M N n' s') 31 := by
  have := heap_setCellsL b 31 (exC n' s').toList 1 w _ h
  rw [opX_putL] at this
  exact this
theorem opX_putN {w : World} {b : Nat} {K M N : Int} {n : Nd} {s : Value} (h : w.heap[b]? = some (.cells (opX K M N n s) 31 (0, 0))) (N' : Int) : Blk (w.setCell ⟨b, 16, none⟩ (.int .i64 N')) b (opX K M N' n s) 31 := heap_setCell_same w b 16 _ _ (.int .i64 N') h
theorem ClP.ok {w : World} {n : Nd} {ks : List Ex} {e : Ending} {w' : World} (h : ClP w 0 (.mk n ks) e w') : ∃ a len cap bs a' len' cap', e = .returned (.tuple #[exV n (.slice a len cap), .int .i64 0, exV n (.slice a' len' cap'), .int .i64 0]) ∧ New w w' (exV n (.slice a len cap)) (.mk n ks) bs ∧ Below w.heap.size w w' := by
  rcases h with ⟨h, _⟩ | ⟨_, a, len, cap, bs, a', len', cap', h1, h2, _, h3⟩
  · exact absurd rfl h
  · exact ⟨a, len, cap, bs, a', len', cap', h1, h2, h3⟩
theorem ClP.bad {w : World} {u : Ex} {e : Ending} {w' : World} (h : ClP w 1 u e w') : e = .returned (.tuple #[exV nd0 (.slice none 0 0), .int .i64 1, exV nd0 (.slice none 0 0), .int .i64 1]) ∧ Below w.heap.size w w' := by
  rcases h with ⟨_, h⟩ | ⟨h, _⟩
  · exact h
  · exact absurd h (by decide)
theorem new_put {w3 w4 w8 w9 : World} {v : Value} {u : Ex} {bs : List Nat} {bo : Nat} (hN : New w3 w4 v u bs) (D : Below w4.heap.size w4 w8) (hw : ∀ k, k ≠ bo → w9.heap[k]? = w8.heap[k]?) (hz : w9.heap.size = w8.heap.size) (hl : bo < w3.heap.size) (hs : SmE u) : Tree w9 v u := by
  refine (hN.ow.move _ (fun k hk => ?_)).in' _ (fun k hk => ?_) hs
  · have := hN.at' k hk
    rw [hw k (by omega)]
    exact D.block k this.2
  · have := hN.at' k hk
    have := D.size
    show k < w9.heap.size
    omega
theorem er_r {K p : Int} {u : Ex} (hK : K = 2) (hm : mayR u = 0) : clEr K p u = if mayB p 0 then 0 else 1 := by subst hK; unfold clEr spotR; rw [if_neg (by decide), if_pos rfl, if_pos hm]
theorem er_c {K p : Int} {u : Ex} (hK : K = 3) (hm : mayR u = 0) : clEr K p u = if mayB 0 p then 0 else 1 := by subst hK; unfold clEr spotR; rw [if_neg (by decide), if_neg (by decide), if_pos hm]
theorem nmay_r {p : Int} (h0 : ¬ p < 0) (h : ¬ mayB p 0 = true) : 65535 < p := by rw [mayB_iff] at h; omega
theorem nmay_c {p : Int} (h0 : ¬ p < 0) (h : ¬ mayB 0 p = true) : 701 < p := by rw [mayB_iff] at h; omega
def rg13b (c : Code) : Code := c112b (c112b (c212b (c212b (c212b (c212b (c212b (c212b (c212b (c212b c)))))))))
set_option maxHeartbeats 4000000 in
set_option maxRecDepth 100000 in
theorem reg13b {w : World} {p : Int} {cols ah : Bool} {xn tn : Nd} {ax ta : Option Addr} {lx cx lt ct bx bt : Nat} (XB : Blk w bx (exC xn (.slice ax lx cx)) 29) (TB : Blk w bt (exC tn (.slice ta lt ct)) 29)
    (HA : Calls Try.prog 15 #[exV tn (.slice ta lt ct), .int .i64 p, .bool cols] w fun e w'' => e = .returned (.bool ah) ∧ Below w.heap.size w w'')
    (HE : ah = true → ∀ w', Below w.heap.size w w' → Calls Try.prog 10 #[exV xn (.slice ax lx cx), exV tn (.slice ta lt ct)] w' fun e w'' => e = .returned (.bool true) ∧ Below w'.heap.size w' w'') {K K1 : Act → World → Prop} {post : Ending → World → Prop} {u0 u2 u5 u6 u7 u8 u9 u11 u12 u13 u14 u15 u16 u17 u18 u19 u20 u21 u22 u23 u24 u25 u26 u27 u28 u29 u30 u31 u32 u33 u34 u35 u36 u37 u38 u39 u40 u41 u42 u43 u44 u45 u46 u47 u48 u49 u50 u51 u52 u53 u54 u55 u56 u57 u58 u59 u60 u61 u62 u63 u64 u65 u66 u67 u68 u69 u70 u71 u72 u73 u74 u75 u76 u77 u78 u79 u80 u81 u82 u83 u84 u85 u86 u87 u88 u89 u90 u91 u92 u93 u94 u95 u96 u97 u98 u99 u100 u101 u102 u103 u104 u105 u106 u107 u108 u109 u110 u111 u112 u113 u114 u115 u116 : Value}
    (hQ : ∀ (w' : World) (x79 x80 x81 x82 x83 x84 x85 x86 x87 : Value), Below w.heap.size w w' → K ⟨#[u0, .int .i64 p, u2, .bool cols, .pointer (some ⟨bt, 0, none⟩), u5, u6, u7, u8, u9, .pointer (some ⟨bx, 0, none⟩), u11, u12, u13, u14, u15, u16, u17, u18, u19, u20, u21, u22, u23, u24, u25, u26, u27, u28, u29, u30, u31, u32, u33, u34, u35, u36, u37, u38, u39, u40, u41, u42, u43, u44, u45, u46, u47, u48, u49, u50, u51, u52, u53, u54, u55, u56, u57, u58, u59, u60, u61, u62, u63, u64, u65, u66, u67, u68, u69, u70, u71, u72, u73, u74, u75, u76, u77, u78, x79, x80, x81, x82, x83, x84, x85, x86, x87, .bool false, u89, u90, u91, u92, u93, u94, u95, u96, u97, u98, u99, u100, u101, u102, u103, u104, u105, u106, u107, u108, u109, u110, u111, u112, u113, u114, u115, u116], []⟩ w') : (rg13b (Try.f4.body.getD .skip)).wp Try.prog (Exit.then K (Exit.then K1 (bodyPost Try.prog Try.f4 post))) ⟨#[u0, .int .i64 p, u2, .bool cols, .pointer (some ⟨bt, 0, none⟩), u5, u6, u7, u8, u9, .pointer (some ⟨bx, 0, none⟩), u11, u12, u13, u14, u15, u16, u17, u18, u19, u20, u21, u22, u23, u24, u25, u26, u27, u28, u29, u30, u31, u32, u33, u34, u35, u36, u37, u38, u39, u40, u41, u42, u43, u44, u45, u46, u47, u48, u49, u50, u51, u52, u53, u54, u55, u56, u57, u58, u59, u60, u61, u62, u63, u64, u65, u66, u67, u68, u69, u70, u71, u72, u73, u74, u75, u76, u77, u78, u79, u80, u81, u82, u83, u84, u85, u86, u87, u88, u89, u90, u91, u92, u93, u94, u95, u96, u97, u98, u99, u100, u101, u102, u103, u104, u105, u106, u107, u108, u109, u110, u111, u112, u113, u114, u115, u116], []⟩ w := by
  replace XB := hide XB
  replace TB := hide TB
  replace HA := hide HA
  replace HE := hide HE
  replace hQ := hide hQ
  obtain ⟨Q', hQ'⟩ : ∃ Q', Q' = bodyPost Try.prog Try.f4 post := ⟨_, rfl⟩
  rw [← hQ']
  dsimp only [Try.f4, Option.getD, rg13b, c112b, c212b]
  rw [hQ']
  clear hQ'
  go_wp2_with (refine wpList_load_blk rfl 29 _ rfl _ rfl _ (by with_reducible exact TB.out) _ Try.underlying29 rfl (exC_info _ _) ?_)
  refine HA.out.mono ?_
  rintro e w4 ⟨rfl, hb⟩
  have D4 := hide hb
  have XB4 := hide (XB.out.keep hb)
  have TB4 := hide (TB.out.keep hb)
  clear hb XB TB HA
  by_cases hA : ah = true
  · subst hA
    replace HE := hide (HE.out rfl w4 D4.out)
    go_wp2_with (first
      | (refine wpList_load_blk_g rfl 29 _ rfl _ rfl _ (by with_reducible exact XB4.out) _ Try.underlying29 rfl (exC_info _ _) ?_)
      | (refine wpList_load_blk_g rfl 29 _ rfl _ rfl _ (by with_reducible exact TB4.out) _ Try.underlying29 rfl (exC_info _ _) ?_)
      | (go_at_call 10; refine HE.out.mono ?_; rintro e w7 ⟨rfl, h7⟩; have D7 := hide (next D4.out h7); clear h7))
    exact hQ.out _ _ _ _ _ _ _ _ _ _ D7.out
  · obtain rfl : ah = false := by cases ah; rfl; exact absurd rfl hA
    clear hA HE
    go_wp2_with fail
    exact hQ.out _ _ _ _ _ _ _ _ _ _ D4.out
end Go.Proofs.Ytbljdmegdejboaa
