/- Package fold's SMALL and LARGE: what makes their rules. Proved of the Go text. -/
import Derived.Test.YtchphbclaapfhaaGreatDoorSrm15
namespace Go.Proofs.YtchphbclaapfhaaGreatDoor
open Go.RowKit Go.Sort
open T9 (Blk Chg)
set_option linter.unusedVariables false

set_option maxHeartbeats 2000000 in
set_option maxRecDepth 100000 in
theorem ranked_c (k : Int) (nP g cap : Nat) (w : World) (hg : g < w.heap.size) (hcap : 2 ≤ cap) (Rk : w.rangeAt g (0 + 1 * 8) (agL (agN k))) : Calls Tryz.prog 79 #[.slice (some ⟨g, 0, none⟩) 2 cap, .func (.func nP) #[] #[]] w fun e w' => ∃ v Bq Bp, e = .returned v ∧ (w.heap.size ≤ Bq ∧ w.heap.size ≤ Bp) ∧ SrtMade (rnkM Bq Bp) (RnkW Bq Bp nP k) 130 #[.pointer (some ⟨Bq, 0, none⟩), .pointer (some ⟨Bp, 0, none⟩)] (some ⟨g, 0, none⟩) 1 cap w.heap.size v w' ∧ Below w.heap.size w w' := by
  have HA := asNumber_int k
  have hsl := fun w => slice01 g 0 2 cap (by decide) hcap w
  obtain ⟨wa, hwa⟩ : ∃ wa, (w.alloc (.cells #[.func (.func nP) #[] #[]] 103)).alloc (.cells #[.slice none 0 0, .nilFunc, .nilFunc, .nilFunc, .nilFunc, .nilFunc] 70) = wa := ⟨_, rfl⟩
  have KA : Below w.heap.size w wa := by rw [← hwa]; exact step (step (Below.refl _ _) _) _
  have PA : Hid (Blk wa w.heap.size #[.func (.func nP) #[] #[]] 103) := hide (by rw [← hwa]; exact (Blk.new w _ _).alloc _)
  have BA : Hid (Blk wa (w.heap.size + 1) #[.slice none 0 0, .nilFunc, .nilFunc, .nilFunc, .nilFunc, .nilFunc] 70) := hide (by rw [← hwa]; exact T9.Blk.new1 w _ _ _)
  have hza : Hid (wa.heap.size = w.heap.size + 2) := hide (by rw [← hwa]; simp)
  have f0 : wa.cell? ⟨g, 8, none⟩ = some (.bool false) := keep1 KA (by have := Rk 0 _ rfl; simpa using this)
  have f1 : wa.cell? ⟨g, 9, none⟩ = some (.int .i64 0) := keep1 KA (by have := Rk 1 _ rfl; simpa using this)
  have f2 : wa.cell? ⟨g, 10, none⟩ = some (.int .i64 0) := keep1 KA (by have := Rk 2 _ rfl; simpa using this)
  have f3 : wa.cell? ⟨g, 11, none⟩ = some (.int .i64 0) := keep1 KA (by have := Rk 3 _ rfl; simpa using this)
  have f4 : wa.cell? ⟨g, 12, none⟩ = some (.int .i64 0) := keep1 KA (by have := Rk 4 _ rfl; simpa using this)
  have f5 : wa.cell? ⟨g, 13, none⟩ = some (.int .i64 1) := keep1 KA (by have := Rk 5 _ rfl; simpa using this)
  have f6 : wa.cell? ⟨g, 14, none⟩ = some (.int .i64 k) := keep1 KA (by have := Rk 6 _ rfl; simpa using this)
  have f7 : wa.cell? ⟨g, 15, none⟩ = some (.string no) := keep1 KA (by have := Rk 7 _ rfl; simpa using this)
  replace KA := hide KA
  clear Rk
  go_enter Tryz.func79, Tryz.ntmps79
  go_upto_region 1 with fail
  try rw [hwa]
  clear hwa
  go_wp2_with fail
  refine (HA.out _).mono ?_
  rintro e w1 ⟨rfl, hb1⟩
  have PB : Hid (Blk (w1.alloc (.cells #[.int .i64 k] 2)) w1.heap.size #[.int .i64 k] 2) := hide (Blk.new w1 _ _)
  have PP := hide ((PA.out.keep hb1).alloc (.cells #[.int .i64 k] 2))
  have BQ := hide ((BA.out.keep hb1).alloc (.cells #[.int .i64 k] 2))
  have KQ := hide (step (next KA.out hb1) (.cells #[.int .i64 k] 2))
  have hz1 : Hid (w.heap.size + 2 ≤ w1.heap.size) := hide (by have := hb1.size; have := hza.out; omega)
  have HU := hide (sorting_c (rnkM w1.heap.size w.heap.size) (RnkW w1.heap.size w.heap.size nP k) (rnk_keep _ _ _ _) 130 #[.pointer (some ⟨w1.heap.size, 0, none⟩), .pointer (some ⟨w.heap.size, 0, none⟩)] (some ⟨g, 0, none⟩) 1 cap (w1.alloc (.cells #[.int .i64 k] 2)) ⟨PB.out, PP.out⟩)
  clear hb1 f0 f1 f2 f3 f4 f5 f6 f7
  go_wp2_with fail
  refine HU.out.mono ?_
  rintro e wd ⟨v, rfl, ⟨Bt, Ba, Bk, Bl, M, rfl, hs, hM⟩, gb⟩
  have KD := hide (next KQ.out gb)
  have BD := BQ.out.keep gb
  replace hs := hide hs
  have nM : Hid (∀ j, M j → (w.heap.size + 2 ≤ j ∨ j = w.heap.size)) := hide (fun j h => by
    have := hz1.out
    rcases hM j h with (h | h) | h
    · exact .inl (by omega)
    · exact .inr h
    · exact .inl (by simp at h; omega))
  have nN := hide hM
  clear hM gb
  have z0 : wd.cell? ⟨w.heap.size + 1, 0, none⟩ = some (.slice none 0 0) := BD.at' 0
  have z1 : wd.cell? ⟨w.heap.size + 1, 1, none⟩ = some (.nilFunc) := BD.at' 1
  have z2 : wd.cell? ⟨w.heap.size + 1, 2, none⟩ = some (.nilFunc) := BD.at' 2
  have z3 : wd.cell? ⟨w.heap.size + 1, 3, none⟩ = some (.nilFunc) := BD.at' 3
  have z4 : wd.cell? ⟨w.heap.size + 1, 4, none⟩ = some (.nilFunc) := BD.at' 4
  have z5 : wd.cell? ⟨w.heap.size + 1, 5, none⟩ = some (.nilFunc) := BD.at' 5
  have zf := BD.fr
  have h9 := ((((((BD.set 0 (.slice (some ⟨g, 0, none⟩) 1 cap)).set 1 (.func (.func 117) #[] #[.pointer (some ⟨Bk, 0, none⟩)])).set 2 (.func (.func 147) #[] #[.pointer (some ⟨Bl, 0, none⟩)])).set 3 .nilFunc).set 4 .nilFunc).set 5 (.func (.func 127) #[] #[.pointer (some ⟨Ba, 0, none⟩), .pointer (some ⟨Bt, 0, none⟩)]))
  have c9 := hide (((((((Chg.refl (· = w.heap.size + 1) wd).set (w.heap.size + 1) 0 (.slice (some ⟨g, 0, none⟩) 1 cap) rfl).set (w.heap.size + 1) 1 (.func (.func 117) #[] #[.pointer (some ⟨Bk, 0, none⟩)]) rfl).set (w.heap.size + 1) 2 (.func (.func 147) #[] #[.pointer (some ⟨Bl, 0, none⟩)]) rfl).set (w.heap.size + 1) 3 .nilFunc rfl).set (w.heap.size + 1) 4 .nilFunc rfl).set (w.heap.size + 1) 5 (.func (.func 127) #[] #[.pointer (some ⟨Ba, 0, none⟩), .pointer (some ⟨Bt, 0, none⟩)]) rfl)
  obtain ⟨w9, hw9⟩ : ∃ w9, ((((((wd.setCell ⟨w.heap.size + 1, 0, none⟩ (.slice (some ⟨g, 0, none⟩) 1 cap)).setCell ⟨w.heap.size + 1, 1, none⟩ (.func (.func 117) #[] #[.pointer (some ⟨Bk, 0, none⟩)])).setCell ⟨w.heap.size + 1, 2, none⟩ (.func (.func 147) #[] #[.pointer (some ⟨Bl, 0, none⟩)])).setCell ⟨w.heap.size + 1, 3, none⟩ .nilFunc).setCell ⟨w.heap.size + 1, 4, none⟩ .nilFunc).setCell ⟨w.heap.size + 1, 5, none⟩ (.func (.func 127) #[] #[.pointer (some ⟨Ba, 0, none⟩), .pointer (some ⟨Bt, 0, none⟩)])) = w9 := ⟨_, rfl⟩
  rw [hw9] at h9 c9
  have y0 : w9.cell? ⟨w.heap.size + 1, 0, none⟩ = some (.slice (some ⟨g, 0, none⟩) 1 cap) := h9.at' 0
  have y1 : w9.cell? ⟨w.heap.size + 1, 1, none⟩ = some (.func (.func 117) #[] #[.pointer (some ⟨Bk, 0, none⟩)]) := h9.at' 1
  have y2 : w9.cell? ⟨w.heap.size + 1, 2, none⟩ = some (.func (.func 147) #[] #[.pointer (some ⟨Bl, 0, none⟩)]) := h9.at' 2
  have y3 : w9.cell? ⟨w.heap.size + 1, 3, none⟩ = some .nilFunc := h9.at' 3
  have y4 : w9.cell? ⟨w.heap.size + 1, 4, none⟩ = some .nilFunc := h9.at' 4
  have y5 : w9.cell? ⟨w.heap.size + 1, 5, none⟩ = some (.func (.func 127) #[] #[.pointer (some ⟨Ba, 0, none⟩), .pointer (some ⟨Bt, 0, none⟩)]) := h9.at' 5
  replace h9 := hide h9
  clear BD
  go_wp2_with fail
  refine bodyPost_ret (v := .agg #[.slice (some ⟨g, 0, none⟩) 1 cap, .func (.func 117) #[] #[.pointer (some ⟨Bk, 0, none⟩)], .func (.func 147) #[] #[.pointer (some ⟨Bl, 0, none⟩)], .nilFunc, .nilFunc, .func (.func 127) #[] #[.pointer (some ⟨Ba, 0, none⟩), .pointer (some ⟨Bt, 0, none⟩)]]) (by simp [results, Tryz.results79, go_sem, y0, y1, y2, y3, y4, y5]; try rfl) rfl ?_
  refine ⟨_, w1.heap.size, w.heap.size, rfl, ⟨by have := hz1.out; omega, Nat.le_refl _⟩, ⟨Bt, Ba, Bk, Bl, M, rfl, made_on (rnk_keep _ _ _ _) hs.out c9.out (fun e => by have := nM.out _ e; omega), fun j h => .inr (by have := nM.out j h; omega)⟩, bel_chg KD.out (by omega) c9.out⟩
set_option maxHeartbeats 2000000 in
set_option maxRecDepth 100000 in
theorem small_mk (k : Int) (k1 : -9223372036854775808 ≤ k) (k2 : k ≤ 9223372036854775807) (m : Nat) (h1 : 1 ≤ m) (h3 : m ≤ 300) : MkX 41 [agC (m : Nat), agN k] [agC (m : Nat)] ([] : List Int) dG (fun L => rnkT (fun L j => L.getD (j - 1) 0) k (srt L)) (PlainX (fun _ => True) (fun L : List Int => L.length ≤ 1000) (celN srtT) (fun L => rnkT (fun L j => L.getD (j - 1) 0) k (srt L))) := by
  refine ⟨?_, ent_of Tryz.func41 (by kernel_rfl) (by kernel_rfl), (fun s v e => by cases e), (fun a ha => by rcases List.mem_cons.1 ha with rfl | ha; exact agC_ok _ (by omega) (by omega); cases ha), by simp⟩
  intro w g cap hg hcap hrow
  have Rk := hrow 1 _ rfl
  have K0 := hide (step (Below.refl w.heap.size w) (.cells #[.slice none 0 0, .nilFunc, .nilFunc, .nilFunc, .nilFunc, .nilFunc] 70))
  have HU := hide (ranked_c k 81 g cap (w.alloc (.cells #[.slice none 0 0, .nilFunc, .nilFunc, .nilFunc, .nilFunc, .nilFunc] 70)) (by simp; omega) (by simpa using hcap) (T9.range_of_block Rk (K0.out.block g hg)))
  have B0 := hide (Blk.new w #[.slice none 0 0, .nilFunc, .nilFunc, .nilFunc, .nilFunc, .nilFunc] 70)
  have hgl : Hid (g < w.heap.size) := hide hg
  replace hrow := hide hrow
  clear Rk
  simp only [List.length_cons, List.length_nil]
  go_enter Tryz.func41, Tryz.ntmps41
  go_wp2_with fail
  refine HU.out.mono ?_
  rintro e wd ⟨v, Bq, Bp, rfl, hqp, ⟨Bt, Ba, Bk, Bl, M, rfl, hs, hM⟩, gb⟩
  have KD := hide (next K0.out gb)
  have BD := B0.out.keep gb
  replace hs := hide hs
  have nM : Hid (∀ j, M j → w.heap.size + 1 ≤ j) := hide (fun j h => by
    simp only [World.size_alloc] at hqp hM
    rcases hM j h with (h | h) | h
    · omega
    · omega
    · exact h)
  clear hM gb hqp
  have z0 : wd.cell? ⟨w.heap.size, 0, none⟩ = some (.slice none 0 0) := BD.at' 0
  have z1 : wd.cell? ⟨w.heap.size, 1, none⟩ = some (.nilFunc) := BD.at' 1
  have z2 : wd.cell? ⟨w.heap.size, 2, none⟩ = some (.nilFunc) := BD.at' 2
  have z3 : wd.cell? ⟨w.heap.size, 3, none⟩ = some (.nilFunc) := BD.at' 3
  have z4 : wd.cell? ⟨w.heap.size, 4, none⟩ = some (.nilFunc) := BD.at' 4
  have z5 : wd.cell? ⟨w.heap.size, 5, none⟩ = some (.nilFunc) := BD.at' 5
  have zf := BD.fr
  have h9 := ((((((BD.set 0 (.slice (some ⟨g, 0, none⟩) 1 cap)).set 1 (.func (.func 117) #[] #[.pointer (some ⟨Bk, 0, none⟩)])).set 2 (.func (.func 147) #[] #[.pointer (some ⟨Bl, 0, none⟩)])).set 3 .nilFunc).set 4 .nilFunc).set 5 (.func (.func 127) #[] #[.pointer (some ⟨Ba, 0, none⟩), .pointer (some ⟨Bt, 0, none⟩)]))
  have c9 := hide (((((((Chg.refl (· = w.heap.size) wd).set (w.heap.size) 0 (.slice (some ⟨g, 0, none⟩) 1 cap) rfl).set (w.heap.size) 1 (.func (.func 117) #[] #[.pointer (some ⟨Bk, 0, none⟩)]) rfl).set (w.heap.size) 2 (.func (.func 147) #[] #[.pointer (some ⟨Bl, 0, none⟩)]) rfl).set (w.heap.size) 3 .nilFunc rfl).set (w.heap.size) 4 .nilFunc rfl).set (w.heap.size) 5 (.func (.func 127) #[] #[.pointer (some ⟨Ba, 0, none⟩), .pointer (some ⟨Bt, 0, none⟩)]) rfl)
  obtain ⟨w9, hw9⟩ : ∃ w9, ((((((wd.setCell ⟨w.heap.size, 0, none⟩ (.slice (some ⟨g, 0, none⟩) 1 cap)).setCell ⟨w.heap.size, 1, none⟩ (.func (.func 117) #[] #[.pointer (some ⟨Bk, 0, none⟩)])).setCell ⟨w.heap.size, 2, none⟩ (.func (.func 147) #[] #[.pointer (some ⟨Bl, 0, none⟩)])).setCell ⟨w.heap.size, 3, none⟩ .nilFunc).setCell ⟨w.heap.size, 4, none⟩ .nilFunc).setCell ⟨w.heap.size, 5, none⟩ (.func (.func 127) #[] #[.pointer (some ⟨Ba, 0, none⟩), .pointer (some ⟨Bt, 0, none⟩)])) = w9 := ⟨_, rfl⟩
  rw [hw9] at h9 c9
  have y0 : w9.cell? ⟨w.heap.size, 0, none⟩ = some (.slice (some ⟨g, 0, none⟩) 1 cap) := h9.at' 0
  have y1 : w9.cell? ⟨w.heap.size, 1, none⟩ = some (.func (.func 117) #[] #[.pointer (some ⟨Bk, 0, none⟩)]) := h9.at' 1
  have y2 : w9.cell? ⟨w.heap.size, 2, none⟩ = some (.func (.func 147) #[] #[.pointer (some ⟨Bl, 0, none⟩)]) := h9.at' 2
  have y3 : w9.cell? ⟨w.heap.size, 3, none⟩ = some .nilFunc := h9.at' 3
  have y4 : w9.cell? ⟨w.heap.size, 4, none⟩ = some .nilFunc := h9.at' 4
  have y5 : w9.cell? ⟨w.heap.size, 5, none⟩ = some (.func (.func 127) #[] #[.pointer (some ⟨Ba, 0, none⟩), .pointer (some ⟨Bt, 0, none⟩)]) := h9.at' 5
  replace h9 := hide h9
  clear BD
  go_wp2_with fail
  refine bodyPost_ret (v := .agg #[.slice (some ⟨g, 0, none⟩) 1 cap, .func (.func 117) #[] #[.pointer (some ⟨Bk, 0, none⟩)], .func (.func 147) #[] #[.pointer (some ⟨Bl, 0, none⟩)], .nilFunc, .nilFunc, .func (.func 127) #[] #[.pointer (some ⟨Ba, 0, none⟩), .pointer (some ⟨Bt, 0, none⟩)]]) (by simp [results, Tryz.results41, go_sem, y0, y1, y2, y3, y4, y5]; try rfl) rfl ?_
  have hgb : w9.heap[g]? = w.heap[g]? := (c9.out.block g (Nat.lt_of_lt_of_le hgl.out KD.out.size) (Nat.ne_of_lt hgl.out)).trans (KD.out.block g hgl.out)
  have PX := srt_plain (rnk_keep _ _ _ _) (rnk_tell Bq Bp 81 k k1 k2 (fun L j => L.getD (j - 1) 0) small_pick) Bt Ba Bk Bl ⟨.func (.func 117) #[] #[.pointer (some ⟨Bk, 0, none⟩)], _, .nilFunc, .nilFunc, _⟩ rfl rfl
  refine ⟨⟨_, _, .nilFunc, .nilFunc, _⟩, _, M, some ⟨g, 0, none⟩, cap, rfl, ⟨PX.stay, PX.la, .inl (agC_isC m), ⟨rfl, rfl, rfl, rfl, rfl⟩⟩, PX, made_on (rnk_keep _ _ _ _) hs.out c9.out (fun e => by have := nM.out _ e; omega), (fun k hk => by have := nM.out k hk; omega), .inr ⟨g, 0, rfl, ⟨.inl rfl, fun e => by have := nM.out _ e; have := hgl.out; omega, Nat.lt_of_lt_of_le (Nat.lt_of_lt_of_le hgl.out KD.out.size) c9.out.size⟩, fun j y hy => ?_⟩, by simp only [List.length_cons, List.length_nil] at hcap ⊢; omega, bel_chg KD.out (Nat.le_refl _) c9.out⟩
  have hj : j = 0 := by have := (List.getElem?_eq_some_iff.1 hy).1; simp at this; omega
  subst hj
  obtain rfl : agC (m : Nat) = y := by simpa using hy
  exact T9.range_of_block (hrow.out 0 _ rfl) hgb
set_option maxHeartbeats 2000000 in
set_option maxRecDepth 100000 in
theorem large_mk (k : Int) (k1 : -9223372036854775808 ≤ k) (k2 : k ≤ 9223372036854775807) (m : Nat) (h1 : 1 ≤ m) (h3 : m ≤ 300) : MkX 40 [agC (m : Nat), agN k] [agC (m : Nat)] ([] : List Int) dG (fun L => rnkT (fun L j => L.getD (L.length - j) 0) k (srt L)) (PlainX (fun _ => True) (fun L : List Int => L.length ≤ 1000) (celN srtT) (fun L => rnkT (fun L j => L.getD (L.length - j) 0) k (srt L))) := by
  refine ⟨?_, ent_of Tryz.func40 (by kernel_rfl) (by kernel_rfl), (fun s v e => by cases e), (fun a ha => by rcases List.mem_cons.1 ha with rfl | ha; exact agC_ok _ (by omega) (by omega); cases ha), by simp⟩
  intro w g cap hg hcap hrow
  have Rk := hrow 1 _ rfl
  have K0 := hide (step (Below.refl w.heap.size w) (.cells #[.slice none 0 0, .nilFunc, .nilFunc, .nilFunc, .nilFunc, .nilFunc] 70))
  have HU := hide (ranked_c k 80 g cap (w.alloc (.cells #[.slice none 0 0, .nilFunc, .nilFunc, .nilFunc, .nilFunc, .nilFunc] 70)) (by simp; omega) (by simpa using hcap) (T9.range_of_block Rk (K0.out.block g hg)))
  have B0 := hide (Blk.new w #[.slice none 0 0, .nilFunc, .nilFunc, .nilFunc, .nilFunc, .nilFunc] 70)
  have hgl : Hid (g < w.heap.size) := hide hg
  replace hrow := hide hrow
  clear Rk
  simp only [List.length_cons, List.length_nil]
  go_enter Tryz.func40, Tryz.ntmps40
  go_wp2_with fail
  refine HU.out.mono ?_
  rintro e wd ⟨v, Bq, Bp, rfl, hqp, ⟨Bt, Ba, Bk, Bl, M, rfl, hs, hM⟩, gb⟩
  have KD := hide (next K0.out gb)
  have BD := B0.out.keep gb
  replace hs := hide hs
  have nM : Hid (∀ j, M j → w.heap.size + 1 ≤ j) := hide (fun j h => by
    simp only [World.size_alloc] at hqp hM
    rcases hM j h with (h | h) | h
    · omega
    · omega
    · exact h)
  clear hM gb hqp
  have z0 : wd.cell? ⟨w.heap.size, 0, none⟩ = some (.slice none 0 0) := BD.at' 0
  have z1 : wd.cell? ⟨w.heap.size, 1, none⟩ = some (.nilFunc) := BD.at' 1
  have z2 : wd.cell? ⟨w.heap.size, 2, none⟩ = some (.nilFunc) := BD.at' 2
  have z3 : wd.cell? ⟨w.heap.size, 3, none⟩ = some (.nilFunc) := BD.at' 3
  have z4 : wd.cell? ⟨w.heap.size, 4, none⟩ = some (.nilFunc) := BD.at' 4
  have z5 : wd.cell? ⟨w.heap.size, 5, none⟩ = some (.nilFunc) := BD.at' 5
  have zf := BD.fr
  have h9 := ((((((BD.set 0 (.slice (some ⟨g, 0, none⟩) 1 cap)).set 1 (.func (.func 117) #[] #[.pointer (some ⟨Bk, 0, none⟩)])).set 2 (.func (.func 147) #[] #[.pointer (some ⟨Bl, 0, none⟩)])).set 3 .nilFunc).set 4 .nilFunc).set 5 (.func (.func 127) #[] #[.pointer (some ⟨Ba, 0, none⟩), .pointer (some ⟨Bt, 0, none⟩)]))
  have c9 := hide (((((((Chg.refl (· = w.heap.size) wd).set (w.heap.size) 0 (.slice (some ⟨g, 0, none⟩) 1 cap) rfl).set (w.heap.size) 1 (.func (.func 117) #[] #[.pointer (some ⟨Bk, 0, none⟩)]) rfl).set (w.heap.size) 2 (.func (.func 147) #[] #[.pointer (some ⟨Bl, 0, none⟩)]) rfl).set (w.heap.size) 3 .nilFunc rfl).set (w.heap.size) 4 .nilFunc rfl).set (w.heap.size) 5 (.func (.func 127) #[] #[.pointer (some ⟨Ba, 0, none⟩), .pointer (some ⟨Bt, 0, none⟩)]) rfl)
  obtain ⟨w9, hw9⟩ : ∃ w9, ((((((wd.setCell ⟨w.heap.size, 0, none⟩ (.slice (some ⟨g, 0, none⟩) 1 cap)).setCell ⟨w.heap.size, 1, none⟩ (.func (.func 117) #[] #[.pointer (some ⟨Bk, 0, none⟩)])).setCell ⟨w.heap.size, 2, none⟩ (.func (.func 147) #[] #[.pointer (some ⟨Bl, 0, none⟩)])).setCell ⟨w.heap.size, 3, none⟩ .nilFunc).setCell ⟨w.heap.size, 4, none⟩ .nilFunc).setCell ⟨w.heap.size, 5, none⟩ (.func (.func 127) #[] #[.pointer (some ⟨Ba, 0, none⟩), .pointer (some ⟨Bt, 0, none⟩)])) = w9 := ⟨_, rfl⟩
  rw [hw9] at h9 c9
  have y0 : w9.cell? ⟨w.heap.size, 0, none⟩ = some (.slice (some ⟨g, 0, none⟩) 1 cap) := h9.at' 0
  have y1 : w9.cell? ⟨w.heap.size, 1, none⟩ = some (.func (.func 117) #[] #[.pointer (some ⟨Bk, 0, none⟩)]) := h9.at' 1
  have y2 : w9.cell? ⟨w.heap.size, 2, none⟩ = some (.func (.func 147) #[] #[.pointer (some ⟨Bl, 0, none⟩)]) := h9.at' 2
  have y3 : w9.cell? ⟨w.heap.size, 3, none⟩ = some .nilFunc := h9.at' 3
  have y4 : w9.cell? ⟨w.heap.size, 4, none⟩ = some .nilFunc := h9.at' 4
  have y5 : w9.cell? ⟨w.heap.size, 5, none⟩ = some (.func (.func 127) #[] #[.pointer (some ⟨Ba, 0, none⟩), .pointer (some ⟨Bt, 0, none⟩)]) := h9.at' 5
  replace h9 := hide h9
  clear BD
  go_wp2_with fail
  refine bodyPost_ret (v := .agg #[.slice (some ⟨g, 0, none⟩) 1 cap, .func (.func 117) #[] #[.pointer (some ⟨Bk, 0, none⟩)], .func (.func 147) #[] #[.pointer (some ⟨Bl, 0, none⟩)], .nilFunc, .nilFunc, .func (.func 127) #[] #[.pointer (some ⟨Ba, 0, none⟩), .pointer (some ⟨Bt, 0, none⟩)]]) (by simp [results, Tryz.results40, go_sem, y0, y1, y2, y3, y4, y5]; try rfl) rfl ?_
  have hgb : w9.heap[g]? = w.heap[g]? := (c9.out.block g (Nat.lt_of_lt_of_le hgl.out KD.out.size) (Nat.ne_of_lt hgl.out)).trans (KD.out.block g hgl.out)
  have PX := srt_plain (rnk_keep _ _ _ _) (rnk_tell Bq Bp 80 k k1 k2 (fun L j => L.getD (L.length - j) 0) large_pick) Bt Ba Bk Bl ⟨.func (.func 117) #[] #[.pointer (some ⟨Bk, 0, none⟩)], _, .nilFunc, .nilFunc, _⟩ rfl rfl
  refine ⟨⟨_, _, .nilFunc, .nilFunc, _⟩, _, M, some ⟨g, 0, none⟩, cap, rfl, ⟨PX.stay, PX.la, .inl (agC_isC m), ⟨rfl, rfl, rfl, rfl, rfl⟩⟩, PX, made_on (rnk_keep _ _ _ _) hs.out c9.out (fun e => by have := nM.out _ e; omega), (fun k hk => by have := nM.out k hk; omega), .inr ⟨g, 0, rfl, ⟨.inl rfl, fun e => by have := nM.out _ e; have := hgl.out; omega, Nat.lt_of_lt_of_le (Nat.lt_of_lt_of_le hgl.out KD.out.size) c9.out.size⟩, fun j y hy => ?_⟩, by simp only [List.length_cons, List.length_nil] at hcap ⊢; omega, bel_chg KD.out (Nat.le_refl _) c9.out⟩
  have hj : j = 0 := by have := (List.getElem?_eq_some_iff.1 hy).1; simp at this; omega
  subst hj
  obtain rfl : agC (m : Nat) = y := by simpa using hy
  exact T9.range_of_block (hrow.out 0 _ rfl) hgb
end Go.Proofs.YtchphbclaapfhaaGreatDoor
