/- The law's run over one column, for whatever rule that wants nothing beside, of whatever arguments. -/
import Derived.Test.YtnpdkojhlgchlaaGreatDoorRnx15
import Derived.Test.YtnpdkojhlgchlaaGreatDoorColM15
namespace Go.Proofs.YtnpdkojhlgchlaaGreatDoor
open Go.RowKit Go.Sort
open T9 (Blk Chg)
set_option linter.unusedVariables false
set_option linter.unusedSimpArgs false

/-- What a rule that wants nothing beside keeps to. -/
structure PlainX {σ : Type} (Q : Va → Prop) (R : σ → Prop) (stC : σ → Va → Stp × σ) (last : σ → Va) (S : σ → (Nat → Prop) → World → Prop) (F : Fns) : Prop where
  stay : Stay S
  la : ∃ n c, F.la = .func (.func n) #[] c ∧ Ends S last n c
  ce : ∃ n c, F.ce = .func (.func n) #[] c ∧ DoesQ (fun s x => R s ∧ Q x) S stC n c
def bf0 (r c : Int) : Int × Int := (r, c)
abbrev gX {σ : Type} (stC : σ → Va → Stp × σ) (last : σ → Va) (rest : List Ag) (k : Nat) (r c : Int) (bs : Bool) (s : σ) (x : Va) : Fs σ := givC dG last bf0 rest k r c (stC s x)
def InvC {σ : Type} (m : Nat) (cnt : σ → Nat) : Fs σ → Prop
  | .over _ => True
  | .wait rest k r c bs s => rest = [agC (m : Nat)] ∧ bs = false ∧ cnt s + 1 ≤ k ∧ k ≤ m
theorem agC_isC (m : Nat) : ∀ a ∈ [agC (m : Nat)], a.is = true := fun a ha => by rcases List.mem_cons.1 ha with rfl | ha; rfl; cases ha
theorem invC_goOn {σ : Type} (last : σ → Va) (m : Nat) (h1 : 1 ≤ m) (cnt : σ → Nat) (k : Nat) (s : σ) (hc : cnt s ≤ k) : InvC m cnt (goOn dG last [agC (m : Nat)] k s) := by
  rw [goOn_colG _ _ _ h1]
  split
  · exact ⟨rfl, rfl, by omega, by omega⟩
  · trivial
theorem plain_give {σ : Type} {Q : Va → Prop} {R : σ → Prop} {stC : σ → Va → Stp × σ} {last : σ → Va} (m : Nat) (h1 : 1 ≤ m) (h3 : m ≤ 300) (cnt : σ → Nat) (hR : ∀ s, cnt s ≤ 300 → R s) (hcnt : ∀ s x, cnt (stC s x).2 ≤ cnt s + 1) (hnb : ∀ s x, (stC s x).1 ≠ .bes) {S : σ → (Nat → Prop) → World → Prop} {F : Fns} (h : PlainX Q R stC last S F) : GiveX Q (InvC m cnt) (gX stC last) S F := by
  constructor
  · intro rest k r c bs s w B M x0 x1 x2 hi hf hx hq
    obtain ⟨rfl, rfl, i3, i4⟩ := hi
    obtain ⟨nL, cL, hla, HL⟩ := h.la
    obtain ⟨nC, cC, hce, HC⟩ := h.ce
    exact giveC h.stay F _ dG stC bf0 last nL cL hla HL nC cC hce HC (.inl hnb) _ (.inl (agC_isC m)) (fun s x e => by cases e) k r c s w B M hf x0 x1 x2 hx ⟨hR s (by omega), hq⟩
  · intro rest k r c bs s x hi
    obtain ⟨rfl, rfl, i3, i4⟩ := hi
    have hn := hnb s x
    have hc := hcnt s x
    unfold gX
    generalize stC s x = p at *
    obtain ⟨p, s'⟩ := p
    cases p with
    | bes => exact absurd rfl hn
    | on => rw [givC]; exact invC_goOn last m h1 cnt k s' (by simp only at hc; omega)
    | ends y => trivial
theorem rnX_eq {σ : Type} (stC : σ → Va → Stp × σ) (last : σ → Va) (hnb : ∀ s x, (stC s x).1 ≠ .bes) (vs : List Va) : ∀ (f i : Nat) (st : Fs σ), rnX (gX stC last) vs f i st = rnS dG stC last vs f i st
  | 0, i, st => by cases st <;> rfl
  | f + 1, i, .over x => rfl
  | f + 1, i, .wait rest k r c bs s => by
    have hn := hnb s ((vs[i]?).getD ⟨1, 0, no⟩)
    rw [rnX, rnS]
    unfold gX
    generalize stC s ((vs[i]?).getD ⟨1, 0, no⟩) = p at *
    obtain ⟨p, s'⟩ := p
    cases p with
    | bes => exact absurd rfl hn
    | on => rw [givC, giv, rnX_eq stC last hnb vs f (i + 1)]
    | ends y => rw [givC, giv, rnX_eq stC last hnb vs f (i + 1)]
theorem run_colX {σ : Type} (fI : Int) (fn : Nat) (xs : List Ag) (s0 : σ) (Q : Va → Prop) (R : σ → Prop) (stC : σ → Va → Stp × σ) (last : σ → Va) (vs : List Va) (h1 : 1 ≤ vs.length) (h3 : vs.length ≤ 300) (MK : MkX fn xs [agC (vs.length : Nat)] s0 dG last (PlainX Q R stC last)) (cnt : σ → Nat) (hc0 : cnt s0 = 0) (hR : ∀ s, cnt s ≤ 300 → R s) (hcnt : ∀ s x, cnt (stC s x).2 ≤ cnt s + 1) (hnb : ∀ s x, (stC s x).1 ≠ .bes)
    (nm : ByteArray) (mn mx : Int) (HI : CallIs 20 #[.int .i64 fI] (.tuple #[.agg #[.string nm, .int .i64 6, .int .i64 mn, .int .i64 mx], .int .i64 0])) (HX : ∀ w, (Instr.index 76 (.agg fcatC) (.int .i64 fI)).run Tryz.prog w = .ok (.func (.func fn) #[] #[]) w)
    (hx : 0 < xs.length) (hl : xs.length ≤ 1000) (hmn : mn ≤ (xs.length : Int)) (hmx : (xs.length : Int) ≤ mx ∨ mx = -1) (hok : ∀ a ∈ xs, AgOk a) (hvs : ∀ x ∈ vs, VaOk x ∧ Q x) (hq0 : Q ⟨1, 0, no⟩) (w : World) (aa : Option Addr) (capa : Nat) (ha : ArgsAt w (· < w.heap.size) aa xs) (av : Option Addr) (capv : Nat) (hv : ValsAt w av vs) :
    Calls Tryz.prog 9 #[.int .i64 fI, .slice aa xs.length capa, .slice av vs.length capv] w fun e w' => ∃ v, e = .returned (.tuple #[(colR stC last vs s0).1.v, v, .bool true]) ∧ RowP w' (w.heap.size + 1) v ((List.range (colR stC last vs s0).2).map fun j : Nat => ((j : Int), (0 : Int))) ∧ Below w.heap.size w w' := by
  have hb1 := beginX fI fn xs [agC (vs.length : Nat)] s0 dG last (PlainX Q R stC last) MK nm mn mx HI HX hx hl hmn hmx hok aa capa (w.alloc (vO 0 0 no)) (args_below ha (step (Below.refl _ _) _))
  refine runX fI (goOn dG last [agC (vs.length : Nat)] 0 s0) Q (InvC vs.length cnt) (gX stC last) (invC_goOn last vs.length h1 cnt 0 s0 (by omega)) aa xs.length capa w (hb1.mono fun e w' h => ?_) vs hvs hq0 (by omega) av capv hv _ _ (by rw [rnX_eq stC last hnb]; exact rn_column dG stC last s0 vs h1 h3)
  obtain ⟨B, S, F, M, g1, g2, g3, g4, g5, g6⟩ := h
  exact ⟨B, S, F, M, g1, plain_give vs.length h1 h3 cnt hR hcnt hnb g2, g3, g4, g5, g6⟩
end Go.Proofs.YtnpdkojhlgchlaaGreatDoor
