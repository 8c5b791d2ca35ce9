/- Package fold's lookDown of a number as a rule; the law's run of it over a column. Proved of the Go text. -/
import Derived.Test.YtnpdkojhlgchlaaGreatDoorLkm15
namespace Go.Proofs.YtnpdkojhlgchlaaGreatDoor
open Go.RowKit Go.Sort
open T9 (Blk Chg)
set_option linter.unusedVariables false
set_option linter.unusedSimpArgs false

def lastA (u : Unit) : Va := ⟨4, 6, no⟩
structure LookX (x : Int) (S : Unit → (Nat → Prop) → World → Prop) (F : Fns) : Prop where
  stay : Stay S
  la : ∃ n c, F.la = .func (.func n) #[] c ∧ Ends S lastA n c
  ce : ∃ n c, F.ce = .func (.func n) #[] c ∧ DoesQ (fun _ v => isI v) S (lokC x) n c
  be : ∃ n c, F.be = .func (.func n) #[] c ∧ BesIs S lokB n c
  se : ∃ n c, F.se = .func (.func n) #[] c ∧ DoesQ (fun _ v => isI v) S (fun s v => (.ends v, s)) n c
set_option maxHeartbeats 4000000 in
set_option maxRecDepth 100000 in
theorem lookDown_mk (x : Int) (m : Nat) (h1 : 1 ≤ m) (h3 : m ≤ 300) : MkX 57 [agN x, agW m, agN 3] [agC (m : Nat)] () dG lastA (LookX x) := by
  refine ⟨?_, ent_of Tryz.func57 (by kernel_rfl) (by kernel_rfl), (fun s v e => by cases e), (fun a ha => by rcases List.mem_cons.1 ha with rfl | ha; exact agC_ok _ (by omega) (by omega); cases ha), by simp⟩
  intro w g cap hg hcap hrow
  have K0 : Below w.heap.size w (w.alloc (.cells #[.slice none 0 0, .nilFunc, .nilFunc, .nilFunc, .nilFunc, .nilFunc] 74)) := step (Below.refl _ _) _
  have HL := hide (looking_is x m h1 h3 (w.alloc (.cells #[.slice none 0 0, .nilFunc, .nilFunc, .nilFunc, .nilFunc, .nilFunc] 74)) g cap (by simp; omega) (fun j y hy => T9.range_of_block (hrow j y hy) (K0.block g hg)))
  have B0 := hide (Blk.new w #[.slice none 0 0, .nilFunc, .nilFunc, .nilFunc, .nilFunc, .nilFunc] 74)
  simp only [World.size_alloc] at HL
  replace K0 := hide K0
  replace hrow := hide hrow
  replace hg := hide hg
  simp only [List.length_cons, List.length_nil]
  go_enter Tryz.func57, Tryz.ntmps57
  go_wp2_with fail
  refine HL.out.mono ?_
  rintro e wd ⟨Bw, Bt, Bk, Bx, gn, rfl, hs, ⟨l1, l2, l3, l4, l5⟩, hne, hgn, hbd'⟩
  have hbd : Below (w.alloc (.cells #[.slice none 0 0, .nilFunc, .nilFunc, .nilFunc, .nilFunc, .nilFunc] 74)).heap.size (w.alloc (.cells #[.slice none 0 0, .nilFunc, .nilFunc, .nilFunc, .nilFunc, .nilFunc] 74)) wd := by rw [World.size_alloc]; exact hbd'
  clear hbd'
  have KD := hide (next K0.out hbd)
  have BD := B0.out.keep hbd
  replace hs := hide hs
  replace hgn := hide hgn
  replace hne := hide hne
  clear hbd
  have z0 : wd.cell? ⟨w.heap.size, 0, none⟩ = some (.slice none 0 0) := BD.at' 0
  have z1 : wd.cell? ⟨w.heap.size, 1, none⟩ = some (.nilFunc) := BD.at' 1
  have z2 : wd.cell? ⟨w.heap.size, 2, none⟩ = some (.nilFunc) := BD.at' 2
  have z3 : wd.cell? ⟨w.heap.size, 3, none⟩ = some (.nilFunc) := BD.at' 3
  have z4 : wd.cell? ⟨w.heap.size, 4, none⟩ = some (.nilFunc) := BD.at' 4
  have z5 : wd.cell? ⟨w.heap.size, 5, none⟩ = some (.nilFunc) := BD.at' 5
  have zf := BD.fr
  have h9 := ((((((BD.set 0 (.slice (some ⟨gn, 0, none⟩) 1 1)).set 1 .nilFunc).set 2 (.func (.func 185) #[] #[.pointer (some ⟨Bx, 0, none⟩)])).set 3 (.func (.func 186) #[] #[.pointer (some ⟨Bw, 0, none⟩), .pointer (some ⟨Bt, 0, none⟩), .pointer (some ⟨Bk, 0, none⟩)])).set 4 (.func (.func 125) #[] #[])).set 5 (.func (.func 187) #[] #[]))
  have c9 := hide (((((((Chg.refl (· = w.heap.size) wd).set w.heap.size 0 (.slice (some ⟨gn, 0, none⟩) 1 1) rfl).set w.heap.size 1 .nilFunc rfl).set w.heap.size 2 (.func (.func 185) #[] #[.pointer (some ⟨Bx, 0, none⟩)]) rfl).set w.heap.size 3 (.func (.func 186) #[] #[.pointer (some ⟨Bw, 0, none⟩), .pointer (some ⟨Bt, 0, none⟩), .pointer (some ⟨Bk, 0, none⟩)]) rfl).set w.heap.size 4 (.func (.func 125) #[] #[]) rfl).set w.heap.size 5 (.func (.func 187) #[] #[]) rfl)
  obtain ⟨w9, hw9⟩ : ∃ w9, ((((((wd.setCell ⟨w.heap.size, 0, none⟩ (.slice (some ⟨gn, 0, none⟩) 1 1)).setCell ⟨w.heap.size, 1, none⟩ .nilFunc).setCell ⟨w.heap.size, 2, none⟩ (.func (.func 185) #[] #[.pointer (some ⟨Bx, 0, none⟩)])).setCell ⟨w.heap.size, 3, none⟩ (.func (.func 186) #[] #[.pointer (some ⟨Bw, 0, none⟩), .pointer (some ⟨Bt, 0, none⟩), .pointer (some ⟨Bk, 0, none⟩)])).setCell ⟨w.heap.size, 4, none⟩ (.func (.func 125) #[] #[])).setCell ⟨w.heap.size, 5, none⟩ (.func (.func 187) #[] #[])) = w9 := ⟨_, rfl⟩
  rw [hw9] at h9 c9
  have y0 : w9.cell? ⟨w.heap.size, 0, none⟩ = some (.slice (some ⟨gn, 0, none⟩) 1 1) := h9.at' 0
  have y1 : w9.cell? ⟨w.heap.size, 1, none⟩ = some .nilFunc := h9.at' 1
  have y2 : w9.cell? ⟨w.heap.size, 2, none⟩ = some (.func (.func 185) #[] #[.pointer (some ⟨Bx, 0, none⟩)]) := h9.at' 2
  have y3 : w9.cell? ⟨w.heap.size, 3, none⟩ = some (.func (.func 186) #[] #[.pointer (some ⟨Bw, 0, none⟩), .pointer (some ⟨Bt, 0, none⟩), .pointer (some ⟨Bk, 0, none⟩)]) := h9.at' 3
  have y4 : w9.cell? ⟨w.heap.size, 4, none⟩ = some (.func (.func 125) #[] #[]) := h9.at' 4
  have y5 : w9.cell? ⟨w.heap.size, 5, none⟩ = some (.func (.func 187) #[] #[]) := h9.at' 5
  replace h9 := hide h9
  have ll : Hid (w.heap.size + 1 ≤ Bw ∧ w.heap.size + 1 ≤ Bt ∧ w.heap.size + 1 ≤ Bk ∧ w.heap.size + 1 ≤ Bx ∧ w.heap.size + 1 ≤ gn) := hide ⟨l1, l2, l3, l4, l5⟩
  clear BD l1 l2 l3 l4 l5
  go_wp2_with fail
  refine bodyPost_ret (v := .agg #[.slice (some ⟨gn, 0, none⟩) 1 1, .nilFunc, .func (.func 185) #[] #[.pointer (some ⟨Bx, 0, none⟩)], .func (.func 186) #[] #[.pointer (some ⟨Bw, 0, none⟩), .pointer (some ⟨Bt, 0, none⟩), .pointer (some ⟨Bk, 0, none⟩)], .func (.func 125) #[] #[], .func (.func 187) #[] #[]]) (by simp [results, Tryz.results57, go_sem, y0, y1, y2, y3, y4, y5]; try rfl) rfl ?_
  have hS := lok_stay x m Bw Bt Bk Bx
  have b1 := ll.out
  have b2 := hne.out
  refine ⟨⟨.nilFunc, _, _, _, _⟩, LokS x m Bw Bt Bk Bx, (fun k => k = Bw ∨ k = Bt ∨ k = Bk ∨ k = Bx), some ⟨gn, 0, none⟩, 1, rfl, ⟨hS, ⟨_, _, rfl, lok3_ends _⟩, .inl (agC_isC m), ⟨rfl, rfl, rfl, rfl, rfl⟩⟩, ⟨hS, ⟨_, _, rfl, lok3_ends _⟩, ⟨_, _, rfl, lok1_does x m Bw Bt Bk Bx⟩, ⟨_, _, rfl, lok2_bes x m Bw Bt Bk Bx⟩, ⟨_, _, rfl, lok4_does hS⟩⟩, hS.same hs.out (fun k hk => c9.out.block k (hS.lt hs.out k hk) (by omega)), (fun k hk => by omega), .inr ⟨gn, 0, rfl, ⟨.inr (by omega), by omega, Nat.lt_of_lt_of_le hgn.out.lt c9.out.size⟩, fun j y hy => ?_⟩, by simp, bel_chg KD.out (Nat.le_refl _) c9.out⟩
  have hj : j = 0 := by have := (List.getElem?_eq_some_iff.1 hy).1; simp at this; omega
  subst hj
  obtain rfl : agC (m : Nat) = y := by simpa using hy
  have hb := c9.out.blk hgn.out (show gn ≠ w.heap.size by omega)
  intro i v hv
  rw [hb.at']
  match i, hv with
  | 0, hv | 1, hv | 2, hv | 3, hv | 4, hv | 5, hv | 6, hv | 7, hv => exact hv
  | i + 8, hv => simp at hv
def InvL (m : Nat) : Fs Unit → Prop
  | .over _ => True
  | .wait rest k r c bs s => rest = [agC (m : Nat)]
def gL (x : Int) (rest : List Ag) (k : Nat) (r c : Int) (bs : Bool) (s : Unit) (v : Va) : Fs Unit := if bs then giv dG lastA rest k (.ends v, s) else givC dG lastA lokB rest k r c (lokC x s v)
theorem look_give (x : Int) (m : Nat) (h1 : 1 ≤ m) {S : Unit → (Nat → Prop) → World → Prop} {F : Fns} (h : LookX x S F) : GiveX isI (InvL m) (gL x) S F := by
  obtain ⟨nL, cL, hla, HL⟩ := h.la
  obtain ⟨nC, cC, hce, HC⟩ := h.ce
  obtain ⟨nS, cS, hse, HS⟩ := h.se
  constructor
  · intro rest k r c bs s w B M x0 x1 x2 hi hf hx hq
    obtain rfl : rest = [agC (m : Nat)] := hi
    cases bs with
    | false => exact giveC h.stay F _ dG (lokC x) lokB lastA nL cL hla HL nC cC hce HC (.inr h.be) _ (.inl (agC_isC m)) (fun s x e => by cases e) k r c s w B M hf x0 x1 x2 hx hq
    | true => exact giveS h.stay F _ dG (fun s v => (.ends v, s)) lastA nL cL hla HL nS cS nC cC hce hse HS _ (.inl (agC_isC m)) (fun s x e => by cases e) k r c s w B M hf x0 x1 x2 hx hq (fun e => by cases e)
  · intro rest k r c bs s v hi
    obtain rfl : rest = [agC (m : Nat)] := hi
    unfold gL
    cases bs with
    | true => trivial
    | false =>
      rw [if_neg (by decide)]
      unfold lokC
      cases v.i == x with
      | true => rfl
      | false =>
        show InvL m (goOn dG lastA [agC (m : Nat)] k ())
        rw [goOn_colG _ _ _ h1]
        split
        · rfl
        · trivial
/-- The first place of a number, or how many there are. -/
def fI (x : Int) : List Int → Nat
  | [] => 0
  | y :: r => if y = x then 0 else fI x r + 1
theorem fI_le (x : Int) : ∀ l, fI x l ≤ l.length
  | [] => Nat.le_refl _
  | y :: r => by
    rw [fI]
    split
    · exact Nat.zero_le _
    · simp only [List.length_cons]; have := fI_le x r; omega
/-- What VLOOKUP answers of a column. -/
def lkV (x : Int) (ns : List Int) : Va := if fI x ns < ns.length then ((ns.map nmV)[fI x ns + 1]?).getD ⟨1, 0, no⟩ else ⟨4, 6, no⟩
def lkL (x : Int) (ns : List Int) (i p : Nat) (found : Bool) : List (Int × Int) := if found then ((List.range' i (p + 1)).map fun j : Nat => ((j : Int), (0 : Int))) ++ [(((i + p : Nat) : Int), 2)] else (List.range' i p).map fun j : Nat => ((j : Int), (0 : Int))
theorem rn_look (x : Int) (ns : List Int) (h1 : 1 ≤ ns.length) : ∀ (d i f : Nat), ns.length - i = d + 1 → d + 3 ≤ f →
    rnX (gL x) (ns.map nmV) f i (.wait [agC (ns.length : Nat)] (i + 1) (i : Int) 0 false ()) = some (if fI x (ns.drop i) < d + 1 then ((ns.map nmV)[i + fI x (ns.drop i) + 1]?).getD ⟨1, 0, no⟩ else ⟨4, 6, no⟩, lkL x ns i (fI x (ns.drop i)) (decide (fI x (ns.drop i) < d + 1)))
  | d, i, 0, hd, hf => by omega
  | d, i, f + 1, hd, hf => by
    have hi : i < ns.length := by omega
    have hv : ((ns.map nmV)[i]?).getD ⟨1, 0, no⟩ = nmV ns[i] := by rw [List.getElem?_map, List.getElem?_eq_getElem hi]; rfl
    rw [rnX, hv, List.drop_eq_getElem_cons hi, fI]
    by_cases hx : ns[i] = x
    · have hg : gL x [agC (ns.length : Nat)] (i + 1) (i : Int) 0 false () (nmV ns[i]) = .wait [agC (ns.length : Nat)] (i + 1) (i : Int) 2 true () := by
        unfold gL lokC
        rw [if_neg (by decide)]
        have : ((nmV ns[i]).i == x) = true := by simp [hx]
        rw [this]
        rfl
      rw [hg, if_pos hx]
      obtain ⟨f', rfl⟩ : ∃ f', f = f' + 2 := ⟨f - 2, by omega⟩
      rw [rnX]
      have hg2 : ∀ v, gL x [agC (ns.length : Nat)] (i + 1) (i : Int) 2 true () v = .over v := fun v => rfl
      rw [hg2, rnX]
      simp [lkL, List.range'_succ]
    · have hg : gL x [agC (ns.length : Nat)] (i + 1) (i : Int) 0 false () (nmV ns[i]) = goOn dG lastA [agC (ns.length : Nat)] (i + 1) () := by
        unfold gL lokC
        rw [if_neg (by decide)]
        have : ((nmV ns[i]).i == x) = false := by simp [hx]
        rw [this]
        rfl
      rw [hg, if_neg hx, goOn_colG _ _ _ h1]
      by_cases hl : i + 1 < ns.length
      · rw [if_pos hl]
        obtain ⟨d', rfl⟩ : ∃ d', d = d' + 1 := ⟨d - 1, by omega⟩
        rw [rn_look x ns h1 d' (i + 1) f (by omega) (by omega)]
        by_cases hf2 : fI x (ns.drop (i + 1)) < d' + 1
        · have hf3 : fI x (ns.drop (i + 1)) + 1 < d' + 1 + 1 := by omega
          simp only [hf2, hf3, if_true, decide_true, Option.map_some, lkL]
          rw [show i + 1 + fI x (ns.drop (i + 1)) + 1 = i + (fI x (ns.drop (i + 1)) + 1) + 1 by omega, List.range'_succ (n := fI x (ns.drop (i + 1)) + 1), show i + 1 + fI x (ns.drop (i + 1)) = i + (fI x (ns.drop (i + 1)) + 1) by omega]
          rfl
        · have hf3 : ¬ fI x (ns.drop (i + 1)) + 1 < d' + 1 + 1 := by omega
          simp only [hf2, hf3, if_false, decide_false, Option.map_some, lkL, Bool.false_eq_true]
          rw [List.range'_succ (n := fI x (ns.drop (i + 1)))]
          rfl
      · rw [if_neg hl, List.drop_eq_nil_of_le (by omega : ns.length ≤ i + 1), fI]
        obtain ⟨f', rfl⟩ : ∃ f', f = f' + 1 := ⟨f - 1, by omega⟩
        obtain rfl : d = 0 := by omega
        rw [rnX]
        simp [lkL, lastA, List.range'_succ]
end Go.Proofs.YtnpdkojhlgchlaaGreatDoor
