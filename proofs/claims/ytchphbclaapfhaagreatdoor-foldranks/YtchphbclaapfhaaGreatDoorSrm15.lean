/- Package fold's sorting and MEDIAN: what makes their rules. Proved of the Go text. -/
import Derived.Test.YtchphbclaapfhaaGreatDoorSrr15
import Derived.Test.YtchphbclaapfhaaGreatDoorExt15
import Derived.Test.YtchphbclaapfhaaGreatDoorCif15
import Derived.Test.YtchphbclaapfhaaGreatDoorColX15
namespace Go.Proofs.YtchphbclaapfhaaGreatDoor
open Go.RowKit Go.Sort
open T9 (Blk Chg)
set_option linter.unusedVariables false

/-- A rule that sorts has been made. -/
def SrtMade (mt : Nat → Prop) (TW : World → Prop) (nT : Nat) (cT : Array Value) (a : Option Addr) (len cap : Nat) (lo : Nat) (v : Value) (w' : World) : Prop :=
  ∃ (Bt Ba Bk Bl : Nat) (m : Nat → Prop), v = .agg #[.slice a len cap, .func (.func 117) #[] #[.pointer (some ⟨Bk, 0, none⟩)], .func (.func 147) #[] #[.pointer (some ⟨Bl, 0, none⟩)], .nilFunc, .nilFunc, .func (.func 127) #[] #[.pointer (some ⟨Ba, 0, none⟩), .pointer (some ⟨Bt, 0, none⟩)]] ∧ SrtS mt TW nT cT Bt Ba Bk Bl [] m w' ∧ (∀ k, m k → mt k ∨ lo ≤ k)
set_option maxHeartbeats 2000000 in
set_option maxRecDepth 100000 in
theorem sorting_c (mt : Nat → Prop) (TW : World → Prop) (hk : KeepK mt TW) (nT : Nat) (cT : Array Value) (a : Option Addr) (len cap : Nat) (w : World) (hT : TW w) : Calls Tryz.prog 76 #[.slice a len cap, .func (.func nT) #[] cT] w fun e w' => ∃ v, e = .returned v ∧ SrtMade mt TW nT cT a len cap w.heap.size v w' ∧ Below w.heap.size w w' := by
  have key := hide (fun w' (hb : Below w.heap.size w w') => hk.same (w' := w') hT (fun k h => hb.block k (hk.lt hT k h)))
  have low := hide (hk.lt hT)
  clear hT hk
  go_enter Tryz.func76, Tryz.ntmps76
  go_wp2_with fail
  refine (gathering_is _ _ _ _ _ _ _ _).mono ?_
  rintro e w1 ⟨rfl, rfl⟩
  go_wp2_with fail
  refine bodyPost_ret (v := .agg #[.slice a len cap, .func (.func 117) #[] #[.pointer (some ⟨w.heap.size + 3, 0, none⟩)], .func (.func 147) #[] #[.pointer (some ⟨w.heap.size + 5, 0, none⟩)], .nilFunc, .nilFunc, .func (.func 127) #[] #[.pointer (some ⟨w.heap.size + 2, 0, none⟩), .pointer (some ⟨w.heap.size, 0, none⟩)]]) (by simp [results, Tryz.results76, go_sem]; try rfl) rfl ?_
  refine ⟨_, rfl, ⟨w.heap.size, w.heap.size + 2, w.heap.size + 3, w.heap.size + 5, _, rfl, ⟨.slice none 0 0, (((blk_at _ _ (by simp) _ _).alloc _).alloc _).alloc _, (((((blk_at _ _ (by simp) _ _).alloc _).alloc _).alloc _).alloc _).alloc _, ((blk_at _ _ (by simp) _ _).alloc _).alloc _, blk_at _ _ (by simp) _ _, RowI.nil _, key.out _ (by go_grown), rfl, ⟨by omega, by omega, by omega, fun h => by have := low.out _ h; omega⟩, (fun k e => by cases e), by simp, by simp⟩, ?_⟩, by go_grown⟩
  intro k h
  rcases h with h | h | h | h | h | h
  · exact .inr (by omega)
  · exact .inr (by omega)
  · exact .inr (by omega)
  · exact .inr (by omega)
  · exact .inl h
  · cases h
/-- A rule that sorts, as Begin wants it. -/
theorem srt_plain {mt : Nat → Prop} {TW : World → Prop} (hk : KeepK mt TW) {nT : Nat} {cT : Array Value} {tell : List Int → Va} (HT : TellIs TW tell nT cT) (Bt Ba Bk Bl : Nat) (F : Fns) (hc : F.ce = .func (.func 147) #[] #[.pointer (some ⟨Bl, 0, none⟩)]) (hl : F.la = .func (.func 127) #[] #[.pointer (some ⟨Ba, 0, none⟩), .pointer (some ⟨Bt, 0, none⟩)]) : PlainX (fun _ => True) (fun L : List Int => L.length ≤ 1000) (celN srtT) (fun L => tell (srt L)) (SrtS mt TW nT cT Bt Ba Bk Bl) F := by
  refine ⟨srt_stay _ _ _ _ _ _ _ _ hk, ⟨_, _, hl, srt_ends _ _ _ _ _ _ _ _ hk tell HT⟩, ⟨_, _, hc, ?_⟩⟩
  have q := ofn_doesQ (srt_stay mt TW nT cT Bt Ba Bk Bl hk) (fun L : List Int => L.length ≤ 1000) srtT _ _ (srt_tak mt TW nT cT Bt Ba Bk Bl hk) Bl (fun s m w h => by obtain ⟨v, _, _, _, h4, _⟩ := h; exact h4) (fun s x e => by cases e)
  exact ⟨fun s m v w a b c => q.call s m v w a b c.1, q.ent⟩
/-- What is left behind a store into another block. -/
theorem made_on {mt : Nat → Prop} {TW : World → Prop} (hk : KeepK mt TW) {nT : Nat} {cT : Array Value} {Bt Ba Bk Bl X : Nat} {L : List Int} {m : Nat → Prop} {w w' : World} (h : SrtS mt TW nT cT Bt Ba Bk Bl L m w) (hc : Chg (· = X) w w') (hX : ¬ m X) : SrtS mt TW nT cT Bt Ba Bk Bl L m w' := (srt_stay mt TW nT cT Bt Ba Bk Bl hk).same h (fun k h' => hc.block k ((srt_stay mt TW nT cT Bt Ba Bk Bl hk).lt h k h') (fun e => hX (e ▸ h')))
theorem true_keep : KeepK (fun _ => False) (fun _ => True) := ⟨fun _ k h => h.elim, fun _ _ => trivial⟩
set_option maxHeartbeats 2000000 in
set_option maxRecDepth 100000 in
theorem median_mk (m : Nat) (h1 : 1 ≤ m) (h3 : m ≤ 300) : MkX 39 [agC (m : Nat)] [agC (m : Nat)] ([] : List Int) dG (fun L => medT (srt L)) (PlainX (fun _ => True) (fun L : List Int => L.length ≤ 1000) (celN srtT) (fun L => medT (srt L))) := by
  refine ⟨?_, ent_of Tryz.func39 (by kernel_rfl) (by kernel_rfl), (fun s v e => by cases e), (fun a ha => by rcases List.mem_cons.1 ha with rfl | ha; exact agC_ok _ (by omega) (by omega); cases ha), by simp⟩
  intro w g cap hg hcap hrow
  have HU := hide (sorting_c (fun _ => False) (fun _ => True) true_keep 77 #[] (some ⟨g, 0, none⟩) 1 cap (w.alloc (.cells #[.slice none 0 0, .nilFunc, .nilFunc, .nilFunc, .nilFunc, .nilFunc] 70)) trivial)
  have B0 := hide (Blk.new w #[.slice none 0 0, .nilFunc, .nilFunc, .nilFunc, .nilFunc, .nilFunc] 70)
  have K0 := hide (step (Below.refl w.heap.size w) (.cells #[.slice none 0 0, .nilFunc, .nilFunc, .nilFunc, .nilFunc, .nilFunc] 70))
  have hgl : Hid (g < w.heap.size) := hide hg
  replace hrow := hide hrow
  simp only [List.length_cons, List.length_nil]
  go_enter Tryz.func39, Tryz.ntmps39
  go_wp2_with fail
  refine HU.out.mono ?_
  rintro e wd ⟨v, rfl, ⟨Bt, Ba, Bk, Bl, M, rfl, hs, hM⟩, gb⟩
  have KD := hide (next K0.out gb)
  have BD := B0.out.keep gb
  replace hs := hide hs
  have nM : Hid (∀ k, M k → w.heap.size + 1 ≤ k) := hide (fun k h => by rcases hM k h with h | h; exact h.elim; simpa using h)
  clear hM gb
  have z0 : wd.cell? ⟨w.heap.size, 0, none⟩ = some (.slice none 0 0) := BD.at' 0
  have z1 : wd.cell? ⟨w.heap.size, 1, none⟩ = some (.nilFunc) := BD.at' 1
  have z2 : wd.cell? ⟨w.heap.size, 2, none⟩ = some (.nilFunc) := BD.at' 2
  have z3 : wd.cell? ⟨w.heap.size, 3, none⟩ = some (.nilFunc) := BD.at' 3
  have z4 : wd.cell? ⟨w.heap.size, 4, none⟩ = some (.nilFunc) := BD.at' 4
  have z5 : wd.cell? ⟨w.heap.size, 5, none⟩ = some (.nilFunc) := BD.at' 5
  have zf := BD.fr
  have h9 := ((((((BD.set 0 (.slice (some ⟨g, 0, none⟩) 1 cap)).set 1 (.func (.func 117) #[] #[.pointer (some ⟨Bk, 0, none⟩)])).set 2 (.func (.func 147) #[] #[.pointer (some ⟨Bl, 0, none⟩)])).set 3 .nilFunc).set 4 .nilFunc).set 5 (.func (.func 127) #[] #[.pointer (some ⟨Ba, 0, none⟩), .pointer (some ⟨Bt, 0, none⟩)]))
  have c9 := hide (((((((Chg.refl (· = w.heap.size) wd).set (w.heap.size) 0 (.slice (some ⟨g, 0, none⟩) 1 cap) rfl).set (w.heap.size) 1 (.func (.func 117) #[] #[.pointer (some ⟨Bk, 0, none⟩)]) rfl).set (w.heap.size) 2 (.func (.func 147) #[] #[.pointer (some ⟨Bl, 0, none⟩)]) rfl).set (w.heap.size) 3 .nilFunc rfl).set (w.heap.size) 4 .nilFunc rfl).set (w.heap.size) 5 (.func (.func 127) #[] #[.pointer (some ⟨Ba, 0, none⟩), .pointer (some ⟨Bt, 0, none⟩)]) rfl)
  obtain ⟨w9, hw9⟩ : ∃ w9, ((((((wd.setCell ⟨w.heap.size, 0, none⟩ (.slice (some ⟨g, 0, none⟩) 1 cap)).setCell ⟨w.heap.size, 1, none⟩ (.func (.func 117) #[] #[.pointer (some ⟨Bk, 0, none⟩)])).setCell ⟨w.heap.size, 2, none⟩ (.func (.func 147) #[] #[.pointer (some ⟨Bl, 0, none⟩)])).setCell ⟨w.heap.size, 3, none⟩ .nilFunc).setCell ⟨w.heap.size, 4, none⟩ .nilFunc).setCell ⟨w.heap.size, 5, none⟩ (.func (.func 127) #[] #[.pointer (some ⟨Ba, 0, none⟩), .pointer (some ⟨Bt, 0, none⟩)])) = w9 := ⟨_, rfl⟩
  rw [hw9] at h9 c9
  have y0 : w9.cell? ⟨w.heap.size, 0, none⟩ = some (.slice (some ⟨g, 0, none⟩) 1 cap) := h9.at' 0
  have y1 : w9.cell? ⟨w.heap.size, 1, none⟩ = some (.func (.func 117) #[] #[.pointer (some ⟨Bk, 0, none⟩)]) := h9.at' 1
  have y2 : w9.cell? ⟨w.heap.size, 2, none⟩ = some (.func (.func 147) #[] #[.pointer (some ⟨Bl, 0, none⟩)]) := h9.at' 2
  have y3 : w9.cell? ⟨w.heap.size, 3, none⟩ = some .nilFunc := h9.at' 3
  have y4 : w9.cell? ⟨w.heap.size, 4, none⟩ = some .nilFunc := h9.at' 4
  have y5 : w9.cell? ⟨w.heap.size, 5, none⟩ = some (.func (.func 127) #[] #[.pointer (some ⟨Ba, 0, none⟩), .pointer (some ⟨Bt, 0, none⟩)]) := h9.at' 5
  replace h9 := hide h9
  clear BD
  go_wp2_with fail
  refine bodyPost_ret (v := .agg #[.slice (some ⟨g, 0, none⟩) 1 cap, .func (.func 117) #[] #[.pointer (some ⟨Bk, 0, none⟩)], .func (.func 147) #[] #[.pointer (some ⟨Bl, 0, none⟩)], .nilFunc, .nilFunc, .func (.func 127) #[] #[.pointer (some ⟨Ba, 0, none⟩), .pointer (some ⟨Bt, 0, none⟩)]]) (by simp [results, Tryz.results39, go_sem, y0, y1, y2, y3, y4, y5]; try rfl) rfl ?_
  have hgb : w9.heap[g]? = w.heap[g]? := (c9.out.block g (Nat.lt_of_lt_of_le hgl.out KD.out.size) (Nat.ne_of_lt hgl.out)).trans (KD.out.block g hgl.out)
  have PX := srt_plain true_keep med_tell Bt Ba Bk Bl ⟨.func (.func 117) #[] #[.pointer (some ⟨Bk, 0, none⟩)], _, .nilFunc, .nilFunc, _⟩ rfl rfl
  refine ⟨⟨_, _, .nilFunc, .nilFunc, _⟩, _, M, some ⟨g, 0, none⟩, cap, rfl, ⟨PX.stay, PX.la, .inl (agC_isC m), ⟨rfl, rfl, rfl, rfl, rfl⟩⟩, PX, made_on true_keep hs.out c9.out (fun e => by have := nM.out _ e; omega), (fun k hk => by have := nM.out k hk; omega), .inr ⟨g, 0, rfl, ⟨.inl rfl, fun e => by have := nM.out _ e; have := hgl.out; omega, Nat.lt_of_lt_of_le (Nat.lt_of_lt_of_le hgl.out KD.out.size) c9.out.size⟩, fun j y hy => ?_⟩, by simpa using hcap, bel_chg KD.out (Nat.le_refl _) c9.out⟩
  have hj : j = 0 := by have := (List.getElem?_eq_some_iff.1 hy).1; simp at this; omega
  subst hj
  obtain rfl : agC (m : Nat) = y := by simpa using hy
  exact T9.range_of_block (hrow.out 0 _ rfl) hgb
end Go.Proofs.YtchphbclaapfhaaGreatDoor
