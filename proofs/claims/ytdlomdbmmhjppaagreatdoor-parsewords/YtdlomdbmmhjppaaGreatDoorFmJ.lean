/- list.Find and parse.takes tell the table Fd0. parse: every word that is a tree by itself. parse.formula: all words. Proved of the Go text. Where a text's words stand; what a word that begins a text is; a text up to a fault; of no program. parse: what lex's words are to the reader: their kinds, their lengths, a number's value; of no program but the words' names. What parse.Formula answers, as a function of the text. -/
import Derived.Test.YtdlomdbmmhjppaaGreatDoorPiJ
import Derived.Test.YtdlomdbmmhjppaaGreatDoorGnJ
import Derived.Test.YtdlomdbmmhjppaaGreatDoorDeJ
import Derived.Test.YtdlomdbmmhjppaaGreatDoorCtJ
import Derived.Test.YtdlomdbmmhjppaaGreatDoorMyJ
namespace Go.Proofs.YtdlomdbmmhjppaaGreatDoor.T9
open Go.RowKit Go.Sort
set_option linter.unusedVariables false

theorem nm_at (k : Nat) (hk : k < 76) : nm k = (tab[k]'(by rw [tab_len]; exact hk)).1 := by
  unfold nm
  rw [List.getD_eq_getElem?_getD, List.getElem?_eq_getElem (by rw [tab_len]; exact hk)]
  rfl
theorem ba_eq {x : ByteArray} {s : List UInt8} (h : x.data.toList = s) : x = ba s := by
  subst h
  cases x
  rfl
theorem fd_ok : FdOk Fd0 := by
  intro s hs
  unfold Fd0
  cases hf : tab.findIdx? (fun r => r.1.data.toList == s) with
  | none =>
    show ∀ w, _
    intro w
    refine find_no (ba s) hs (fun i hi e => ?_) w
    have h1 := List.findIdx?_eq_none_iff.1 hf (tab[i]'(by rw [tab_len]; exact hi)) (List.getElem_mem _)
    rw [nm_at i hi] at e
    rw [e] at h1
    simp at h1
  | some k =>
    obtain ⟨hk, h1, -⟩ := List.findIdx?_eq_some_iff_getElem.1 hf
    have hk' : k < 76 := by rw [tab_len] at hk; exact hk
    have h2 : (tab[k]'hk).1.data.toList = s := by simpa using h1
    have hn : nm k = ba s := (nm_at k hk').trans (ba_eq h2)
    show match (tab[k]?).map (fun r => ((k : Int) + 1, r.2.1, r.2.2)) with
      | none => _
      | some (f, mn, mx) => _
    rw [List.getElem?_eq_getElem hk]
    refine ⟨fun w => ?_, fun cnt w => ptakes_any k hk' (cnt : Int) w⟩
    rw [← hn]
    exact find_yes k hk' w
end Go.Proofs.YtdlomdbmmhjppaaGreatDoor.T9
namespace Go.Proofs.YtdlomdbmmhjppaaGreatDoor.T9
open Go.RowKit Go.Sort
set_option linter.unusedVariables false

theorem sg_b {s k : List UInt8} : ((ba s).toList == k) = decide (s = k) := by
  rw [ByteArray.toList_eq]
  by_cases h : s = k
  · subst h; simp
  · simp [h]
/-- What a word may be: its kind, its length, a number's value. -/
structure WordOk (l : List Wd) : Prop where
  kind : ∀ j, j < l.length → (wdAt l j).kind ≤ 7
  size : ∀ j, (ba (wdAt l j).text).size ≤ 1000000
  num : ∀ j, j < l.length → (wdAt l j).kind = 1 → Lib.parseIntB 64 (wdAt l j).text = .ok (numOf (wdAt l j).text)
theorem lf_ok {Fd : List UInt8 → Option (Int × Int × Int)} {l : List Wd} (h : WordOk l) : LfOk Fd l := by
  intro j hj h0 h3 h4 h7
  have hk := h.kind j hj
  have hz := h.size j
  have hc : (wdAt l j).kind = 1 ∨ (wdAt l j).kind = 2 ∨ (wdAt l j).kind = 5 ∨ (wdAt l j).kind = 6 := by omega
  rcases hc with hk | hk | hk | hk
  · refine ⟨(leafX 1 (numOf (wdAt l j).text) no10).nd, Nat.zero_le _, fun w => ?_, fun f o => ?_⟩
    · rw [hk]
      exact leaf_num _ _ hz _ (h.num j hj hk) w
    · rw [primP, hk]
      rfl
  · refine ⟨(leafX 2 0 (ba (wdAt l j).text)).nd, Nat.le_trans hz (by decide), fun w => ?_, fun f o => ?_⟩
    · rw [hk]
      exact leaf_text _ _ _ rfl rfl rfl w
    · rw [primP, hk]
      rfl
  · by_cases ht : (wdAt l j).text = [84, 82, 85, 69]
    · refine ⟨(leafX 3 1 no10).nd, Nat.zero_le _, fun w => ?_, fun f o => ?_⟩
      · rw [hk]
        exact leaf_true _ _ (by rw [sg_b, ht]; rfl) w
      · rw [primP, hk, ht]
        rfl
    · refine ⟨(leafX 3 0 no10).nd, Nat.zero_le _, fun w => ?_, fun f o => ?_⟩
      · rw [hk]
        exact leaf_other _ _ (by rw [sg_b]; exact decide_eq_false ht) w
      · rw [primP, hk]
        show PR.ok (leafX 3 (if (wdAt l j).text = [84, 82, 85, 69] then 1 else 0) no10) (j + 1) = _
        rw [if_neg ht]
        rfl
  · refine ⟨(leafX 4 (errOf (wdAt l j).text) no10).nd, Nat.zero_le _, fun w => ?_, fun f o => ?_⟩
    · rw [hk]
      exact leaf_mis _ _ _ (fun w => mistake_any _ w) w
    · rw [primP, hk]
      rfl
end Go.Proofs.YtdlomdbmmhjppaaGreatDoor.T9
namespace Go.Proofs.YtdlomdbmmhjppaaGreatDoor.T9
open Go.RowKit Go.Sort
set_option linter.unusedVariables false

/-- What all words come to. -/
def FRP (w : World) (B : Nat) (e : Ending) (w' : World) : PR → Prop
  | .bad er a => e = .panicked (flt er a) ∧ w.grownBy w' (some B)
  | .ok t j => ∃ (a : Option Addr) (len cap : Nat) (bs : List Nat), e = .returned (exV t.nd (.slice a len cap)) ∧ New w w' (exV t.nd (.slice a len cap)) t bs ∧ w.grownBy w' (some B) ∧ SmE t
/-- Behind all words the end. -/
def endR (l : List Wd) : PR → PR
  | .bad e a => .bad e a
  | .ok t j => if (wdAt l j).kind = 0 then .ok t j else .bad 20 (plAt l j)
variable {B g c mB : Nat} {l : List Wd} {Fd : List UInt8 → Option (Int × Int × Int)}
set_option maxHeartbeats 2000000 in
set_option maxRecDepth 100000 in
theorem formula_r (h0 : 0 < l.length) {r : PR} (HL : CallP 79 B g c mB l 0 0 [.int .i64 1] r) (w : World) (hR : Rdr w B g c mB l 0 0) (hM : OpsM w mB) : Calls Tryz.prog 53 #[.pointer (some ⟨B, 0, none⟩)] w fun e w' => FRP w B e w' (endR l r) := by
  have hB := hide hR.lt
  have hgl := hide (hR.glt h0)
  have st := step (Below.refl w.heap.size w) z14O
  have H1 := hide (HL (w.alloc z14O) (hR.keep st) (hM.keep hR (grown_of st _)))
  replace st := hide st
  clear hR hM HL
  cases r with
  | bad er at' =>
    go_enter Tryz.func53, Tryz.ntmps53
    go_wp2_with fail
    refine H1.out.mono ?_
    rintro e w1 ⟨rfl, hg⟩
    exact ⟨rfl, rfl, grown_trans (grown_of st.out _) hg⟩
  | ok t j =>
    by_cases hk : (wdAt l j).kind = 0
    · rw [show endR l (.ok t j) = .ok t j from if_pos hk]
      go_enter Tryz.func53, Tryz.ntmps53
      go_wp2_with fail
      refine H1.out.mono ?_
      rintro e w1 ⟨a, len, cap, bs, rfl, hN, hO, hij, hjl, hsm⟩
      have G1 := hide ((Got.of (lo := w.heap.size + 1) ⟨rfl, rfl, rfl, Nat.le_refl _, fun _ _ _ => rfl⟩ hN hO hsm (by simp)).keep (step (Below.refl _ w1) (exO t.nd (.slice a len cap))))
      have K1 := hide (Blk.new w1 (exC t.nd (.slice a len cap)) 30)
      have hX1 := hide (show w.heap.size + 1 ≤ w1.heap.size from by have h9 := hO.gr.size; have e9 : (w.alloc z14O).heap.size = w.heap.size + 1 := (by simp); omega)
      have H2 := hide (takeKind_yes (k := 0) G1.out.rd hjl hk)
      have hsn := run_putnew w1 t.nd a len cap
      clear hN hO H1
      go_wp2_with (first
        | (go_at_call 80; (refine H2.out.mono ?_; rintro e w3 ⟨rfl, hon3⟩; have G3 := hide (G1.out.on (by have := hB.out; omega) hon3); have K3 := hide (blk_on K1.out (by have := hB.out; have := hX1.out; omega) hon3.gr); have F3 := hide (fun cs => G3.out.fin (cs := cs) hB.out hgl.out); have hsn3 := run_putrow t.nd a len cap (F3.out z14).1 rfl; replace hon3 := hide hon3))
        | (refine wpList_load_blk rfl 30 _ rfl _ rfl _ (by with_reducible exact K3.out) _ Tryz.underlying30 rfl (exC_info _ _) ?_))
      refine bodyPost_ret (v := exV t.nd (.slice a len cap)) (results_cell_row Tryz.results53 _ _ w.heap.size 30 (exC t.nd (.slice a len cap)) (0, 0) _ rfl (F3.out _).2.2.2 Tryz.underlying30 rfl (exC_info _ _)) rfl ?_
      exact ⟨a, len, cap, bs, rfl, (F3.out _).2.1, (F3.out _).2.2.1.gr, G3.out.sm⟩
    · rw [show endR l (.ok t j) = .bad 20 (plAt l j) from if_neg hk]
      go_enter Tryz.func53, Tryz.ntmps53
      go_wp2_with fail
      refine H1.out.mono ?_
      rintro e w1 ⟨a, len, cap, bs, rfl, hN, hO, hij, hjl, hsm⟩
      have O1 := hide (hO.keep (step (Below.refl _ w1) (exO t.nd (.slice a len cap))))
      have H2 := hide (takeKind_no (k := 0) O1.out.rd hjl hk)
      have hsn := run_putnew w1 t.nd a len cap
      clear hN hO H1
      go_wp2_with fail
      refine H2.out.mono ?_
      rintro e w3 ⟨rfl, hg⟩
      exact ⟨rfl, rfl, grown_trans (grown_of st.out _) (grown_trans O1.out.gr hg)⟩
theorem formula_is (hE : EndW l) (hW : WordOk l) (w : World) (hR : Rdr w B g c mB l 0 0) (hM : OpsM w mB) : Calls Tryz.prog 53 #[.pointer (some ⟨B, 0, none⟩)] w fun e w' => FRP w B e w' (formP rdF Fd0 l) := by
  have H := formula_r hE.1 ((all_is (Fd := Fd0) (B := B) (g := g) (c := c) (mB := mB) hE (fun j => Nat.le_trans (hW.size j) (by decide)) fd_ok (lf_ok hW) (8 * l.length + 16)).line 1 0 0 (by omega) (by omega) hE.1 (by omega) (by omega)) w hR hM
  have e : formP rdF Fd0 l = endR l (lineP rdF Fd0 l (8 * l.length + 16) 1 0 0) := by
    unfold formP endR
    cases lineP rdF Fd0 l (8 * l.length + 16) 1 0 0 <;> rfl
  rw [e]
  exact H
end Go.Proofs.YtdlomdbmmhjppaaGreatDoor.T9
namespace Go.Proofs.YtdlomdbmmhjppaaGreatDoor
open Go.RowKit
set_option linter.unusedVariables false

/-- A byte of a blank. -/
def blB (c : UInt8) : Bool := c == 9 || (c == 10 || (c == 13 || (c == 32 || (c == 194 || (c == 160 || (c == 227 || c == 128))))))
theorem bl_bytes (l : List UInt8) : ∀ k, k < bl l → ∃ c, l[k]? = some c ∧ blB c = true := by
  cases l with
  | nil => intro k h; simp [bl] at h
  | cons c r =>
    intro k h
    rw [bl] at h
    split at h
    · next hc =>
      have : k = 0 := by omega
      subst this
      refine ⟨c, rfl, ?_⟩
      rcases hc with rfl | rfl | rfl | rfl <;> rfl
    · split at h
      · next hc =>
        obtain ⟨rfl, h2⟩ := hc
        have hk : k = 0 ∨ k = 1 := by omega
        rcases hk with rfl | rfl
        · exact ⟨194, rfl, rfl⟩
        · cases r with
          | nil => cases h2
          | cons d r => simp at h2; subst h2; exact ⟨160, rfl, rfl⟩
      · split at h
        · next hc =>
          obtain ⟨rfl, h2, h3⟩ := hc
          have hk : k = 0 ∨ k = 1 ∨ k = 2 := by omega
          cases r with
          | nil => cases h2
          | cons d r =>
            cases r with
            | nil => cases h3
            | cons e r =>
              simp at h2 h3
              subst h2; subst h3
              rcases hk with rfl | rfl | rfl
              · exact ⟨227, rfl, rfl⟩
              · exact ⟨128, rfl, rfl⟩
              · exact ⟨128, rfl, rfl⟩
        · omega
/-- Nothing but bytes of blanks from p on up to q. -/
def Gap (L : List UInt8) (p q : Nat) : Prop := ∀ k, p ≤ k → k < q → ∃ c, L[k]? = some c ∧ blB c = true
/-- The words stand in the text from p on, nothing but blanks between. -/
def Spn (R : List UInt8 → Bool) (L : List UInt8) : Nat → List Wd → Prop
  | p, [] => Gap L p L.length
  | p, x :: l => p ≤ x.at' ∧ Gap L p x.at' ∧ ∃ n, tok R (L.drop x.at') = .ok x.kind x.text n ∧ bl (L.drop x.at') = 0 ∧ Spn R L (x.at' + n) l
theorem Gap.cat {L : List UInt8} {p q r : Nat} (h : Gap L p q) (h' : Gap L q r) : Gap L p r := fun k h1 h2 => by
  rcases Nat.lt_or_ge k q with h3 | h3
  · exact h k h1 h3
  · exact h' k h3 h2
theorem Spn.gap {R : List UInt8 → Bool} {L : List UInt8} {p q : Nat} {l : List Wd} (hg : Gap L p q) (hpq : p ≤ q) (h : Spn R L q l) : Spn R L p l := by
  cases l with
  | nil => exact hg.cat h
  | cons x l =>
    obtain ⟨h1, h2, h3⟩ := h
    exact ⟨by omega, hg.cat h2, h3⟩
theorem cut_spn (R : List UInt8 → Bool) (L : List UInt8) : ∀ (f i : Nat) (acc ws : List Wd), L.length - i ≤ f → i ≤ L.length → cutA R (L.drop i) i acc = .ok ws → ∃ l, ws = acc ++ l ∧ Spn R L i l
  | f, i, acc, ws, hf, hi, h => by
    by_cases hl : L.drop i = []
    · rw [hl, cut_end] at h
      cases h
      have : i = L.length := by
        have := congrArg List.length hl
        rw [List.length_drop] at this
        simp at this; omega
      exact ⟨[], by simp, fun k h1 h2 => by omega⟩
    have hlen : 0 < (L.drop i).length := List.length_pos_iff.2 hl
    rw [List.length_drop] at hlen
    cases f with
    | zero => omega
    | succ f =>
      have hbl := bl_len (L.drop i)
      rw [List.length_drop] at hbl
      by_cases hb : 0 < bl (L.drop i)
      · rw [cut_blank R hb, List.drop_drop] at h
        obtain ⟨l, e, hS⟩ := cut_spn R L f _ acc ws (by omega) (by omega) h
        refine ⟨l, e, hS.gap (fun k h1 h2 => ?_) (by omega)⟩
        obtain ⟨c, h3, h4⟩ := bl_bytes (L.drop i) (k - i) (by omega)
        rw [List.getElem?_drop, show i + (k - i) = k by omega] at h3
        exact ⟨c, h3, h4⟩
      · cases ht : tok R (L.drop i) with
        | bad e => rw [cut_bad R hl (by omega) ht] at h; cases h
        | ok k t n =>
          have hn := tok_len ht
          rw [List.length_drop] at hn
          rw [cut_word R (by omega) ht, List.drop_drop] at h
          obtain ⟨l, e, hS⟩ := cut_spn R L f _ _ ws (by omega) (by omega) h
          exact ⟨⟨k, t, i⟩ :: l, by rw [e]; simp, by simp, fun k h1 h2 => absurd h2 (by simp; omega), n, ht, by simp; omega, hS⟩
theorem calls_head {l : List UInt8} (h : callsL l = true) : l[0]? = some 40 := by
  unfold callsL Lib.hasPrefix at h
  cases l with
  | nil => cases h
  | cons d t => simp [List.isPrefixOf] at h; simp [h]
/-- What a word that begins a text is. -/
theorem tok_cases {R : List UInt8 → Bool} {l : List UInt8} {k n : Nat} {t : List UInt8} (h : tok R l = .ok k t n) :
    (k = 1 ∧ t = trim0 (l.take n) ∧ dgs (l.take n) = true ∧ val t ≤ 9223372036854775807 ∧ runOf l = l.take n) ∨
    (k = 2 ∧ l.head? = some 34 ∧ txt l.tail = some (t, n - 1) ∧ 2 ≤ n) ∨
    (k = 3 ∧ t = l.take n ∧ R t = true ∧ runOf l = l.take n ∧ (∀ c, l.head? = some c → isRun c = true ∧ dig c = false)) ∨
    (k = 4 ∧ t = upp (l.take n) ∧ plainN (l.take n) = true ∧ runOf l = l.take n ∧ l[n]? = some 40 ∧ (∀ c, l.head? = some c → isRun c = true ∧ dig c = false)) ∨
    (k = 5 ∧ t = upp (l.take n) ∧ (t = truL ∨ t = falL) ∧ runOf l = l.take n) ∨
    ((k = 6 ∨ k = 7) ∧ k = spKind t ∧ t = l.take n ∧ spFind l = some t ∧ n = t.length) := by
  have hl := tok_len h
  cases l with
  | nil => cases h
  | cons c r =>
    unfold tok at h
    simp only at h
    split at h
    · next hr =>
      have hn := runTok_len h
      have hro : runOf (c :: r) = (c :: r).take n := by rw [hn]; exact List.prefix_iff_eq_take.1 (List.takeWhile_prefix _)
      have hhd : (runOf (c :: r)).head? = some c := by unfold runOf; rw [List.takeWhile_cons, if_pos hr]; rfl
      have hne : runOf (c :: r) ≠ [] := by intro e; rw [e] at hhd; cases hhd
      unfold runTok at h
      rw [hhd] at h
      simp only [Option.map_some, Option.getD_some] at h
      split at h
      · unfold numTok at h
        split at h
        · next hd =>
          split at h
          · next hv => cases h; exact .inl ⟨rfl, by rw [← hro], by rw [← hro]; exact hd, hv, hro⟩
          · cases h
        · cases h
      · next hdg =>
        have hdg' : dig c = false := by simpa using hdg
        unfold namTok at h
        split at h
        · next h5 =>
          cases h
          refine .inr (.inr (.inr (.inr (.inl ⟨rfl, by rw [← hro], ?_, hro⟩))))
          simp only [Bool.and_eq_true, Bool.or_eq_true, beq_iff_eq] at h5
          exact h5.2
        · split at h
          · next h4 =>
            cases h
            simp only [Bool.and_eq_true] at h4
            refine .inr (.inr (.inr (.inl ⟨rfl, by rw [← hro], by rw [← hro]; exact h4.2, hro, ?_, fun x hx => by simp at hx; subst hx; exact ⟨hr, hdg'⟩⟩)))
            have e0 := calls_head h4.1
            rw [List.getElem?_drop] at e0
            simpa using e0
          · split at h
            · next h3 => cases h; exact .inr (.inr (.inl ⟨rfl, hro, h3, hro, fun x hx => by simp at hx; subst hx; exact ⟨hr, hdg'⟩⟩))
            · cases h
    · split at h
      · next hq =>
        unfold txtTok at h
        split at h
        · cases h
        · next b m hm =>
          cases h
          have := txt_len r _ _ hm
          exact .inr (.inl ⟨rfl, by rw [hq]; rfl, by simpa using hm, by omega⟩)
      · unfold spTok at h
        split at h
        · cases h
        · next p hp =>
          cases h
          have hm := sp_mem hp
          refine .inr (.inr (.inr (.inr (.inr ⟨?_, rfl, (pre_take hm.2).symm, hp, rfl⟩))))
          unfold spKind; split <;> simp
end Go.Proofs.YtdlomdbmmhjppaaGreatDoor
namespace Go.Proofs.YtdlomdbmmhjppaaGreatDoor.T9
open Go.RowKit Go.Sort
set_option linter.unusedVariables false

theorem foldl_le (l : List UInt8) (a : Nat) : a ≤ l.foldl (fun a c => a * 10 + (c.toNat - 48)) a := by
  induction l generalizing a with
  | nil => exact Nat.le_refl _
  | cons c r ih =>
    rw [List.foldl_cons]
    have := ih (a * 10 + (c.toNat - 48))
    omega
theorem dig_iff {c : UInt8} (h : dig c = true) : 48 ≤ c.toNat ∧ c.toNat ≤ 57 := by
  unfold dig at h
  simp only [Bool.and_eq_true, decide_eq_true_eq] at h
  exact h
theorem parseU_ok : ∀ (l : List UInt8) (a : Nat), dgs l = true → l.foldl (fun a c => a * 10 + (c.toNat - 48)) a ≤ 9223372036854775807 → Lib.parseUintM (2 ^ 64 - 1) a l = .ok (l.foldl (fun a c => a * 10 + (c.toNat - 48)) a)
  | [], a, _, _ => rfl
  | c :: r, a, hd, hv => by
    unfold dgs at hd
    rw [List.all_cons, Bool.and_eq_true] at hd
    have hc := dig_iff hd.1
    rw [List.foldl_cons] at hv ⊢
    have h1 := foldl_le r (a * 10 + (c.toNat - 48))
    rw [Lib.parseUintM, if_pos hc, if_neg (by omega), if_neg (by omega)]
    exact parseU_ok r _ hd.2 hv
theorem numOf_go : ∀ (l : List UInt8) (a : Nat), dgs l = true → l.foldl (fun (n : Int) c => 10 * n + ((c.toNat : Int) - 48)) (a : Int) = ((l.foldl (fun a c => a * 10 + (c.toNat - 48)) a : Nat) : Int)
  | [], a, _ => rfl
  | c :: r, a, hd => by
    unfold dgs at hd
    rw [List.all_cons, Bool.and_eq_true] at hd
    have hc := dig_iff hd.1
    rw [List.foldl_cons, List.foldl_cons, ← numOf_go r _ hd.2]
    congr 1
    omega
theorem numOf_val {l : List UInt8} (h : dgs l = true) : numOf l = (val l : Int) := numOf_go l 0 h
theorem parse_num {l : List UInt8} (hd : dgs l = true) (hn : l ≠ []) (hv : val l ≤ 9223372036854775807) : Lib.parseIntB 64 l = .ok (numOf l) := by
  rw [numOf_val hd]
  cases l with
  | nil => exact absurd rfl hn
  | cons c r =>
    have hc : dig c = true := by
      unfold dgs at hd
      rw [List.all_cons, Bool.and_eq_true] at hd
      exact hd.1
    have hc := dig_iff hc
    have hu : Lib.parseUintB 64 (c :: r) = .ok (val (c :: r)) := by
      unfold Lib.parseUintB
      rw [if_neg (by simp)]
      exact parseU_ok (c :: r) 0 hd hv
    unfold Lib.parseIntB
    simp only
    rw [if_neg (by omega), hu]
    simp only
    rw [if_neg (by omega), if_neg (by omega), if_neg (by omega)]
theorem txt_short : ∀ (l b : List UInt8) (n : Nat), txt l = some (b, n) → b.length + 1 ≤ n
  | [], b, n, h => by simp [txt] at h
  | [c], b, n, h => by
    simp only [txt] at h
    split at h
    · cases h; simp
    · cases h
  | c :: d :: r, b, n, h => by
    rw [txt] at h
    split at h
    · split at h
      · rw [Option.map_eq_some_iff] at h
        obtain ⟨⟨b', n'⟩, h1, h2⟩ := h
        have := txt_short r b' n' h1
        cases h2; simp; omega
      · cases h; simp
    · rw [Option.map_eq_some_iff] at h
      obtain ⟨⟨b', n'⟩, h1, h2⟩ := h
      have := txt_short (d :: r) b' n' h1
      cases h2; simp; omega
/-- A word that may be. -/
structure WdG (x : Wd) : Prop where
  kind : 1 ≤ x.kind ∧ x.kind ≤ 7
  size : x.text.length ≤ 65535
  num : x.kind = 1 → Lib.parseIntB 64 x.text = .ok (numOf x.text)
theorem trim0_ok {r : List UInt8} (h : dgs r = true) : dgs (trim0 r) = true ∧ trim0 r ≠ [] ∧ (trim0 r).length ≤ max 1 r.length := by
  unfold trim0
  split
  · exact ⟨rfl, by simp, by simp; omega⟩
  · next hne =>
    refine ⟨?_, fun e => hne (by rw [e]; rfl), ?_⟩
    · unfold dgs at h ⊢
      rw [List.all_eq_true] at h ⊢
      exact fun x hx => h x ((List.dropWhile_suffix _).subset hx)
    · have := (List.dropWhile_suffix (p := (· == (48 : UInt8))) (l := r)).length_le
      omega
theorem tok_wdg {R : List UInt8 → Bool} {l : List UInt8} {k n a : Nat} {t : List UInt8} (h : tok R l = .ok k t n) (hl : l.length ≤ 65535) : WdG ⟨k, t, a⟩ := by
  have hn := tok_len h
  have ht : (l.take n).length ≤ 65535 := by rw [List.length_take]; omega
  rcases tok_cases h with ⟨rfl, e, hd, hv, _⟩ | ⟨rfl, _, hx, h2⟩ | ⟨rfl, e, _⟩ | ⟨rfl, e, _⟩ | ⟨rfl, e, _⟩ | ⟨hk, _, e, _⟩
  · obtain ⟨q1, q2, q3⟩ := trim0_ok hd
    subst e
    exact ⟨by simp, by simp only; omega, fun _ => parse_num q1 q2 hv⟩
  · have := txt_short _ _ _ hx
    exact ⟨by simp, by simp only; omega, fun e => by simp at e⟩
  · subst e; exact ⟨by simp, ht, fun e => by simp at e⟩
  · subst e; exact ⟨by simp, by unfold upp; rw [List.length_map]; exact ht, fun e => by simp at e⟩
  · subst e; exact ⟨by simp, by unfold upp; rw [List.length_map]; exact ht, fun e => by simp at e⟩
  · rw [e]; exact ⟨by simp only; omega, ht, fun e => by simp only at e; omega⟩
theorem spn_wdg {R : List UInt8 → Bool} {L : List UInt8} (hL : L.length ≤ 65535) : ∀ (l : List Wd) (p : Nat), Spn R L p l → ∀ x ∈ l, WdG x
  | [], p, _, x, hx => by cases hx
  | y :: l, p, h, x, hx => by
    obtain ⟨_, _, n, ht, _, hS⟩ := h
    rcases List.mem_cons.1 hx with rfl | hx
    · exact tok_wdg ht (by rw [List.length_drop]; omega)
    · exact spn_wdg hL l _ hS x hx
theorem spn_many {R : List UInt8 → Bool} {L : List UInt8} : ∀ (l : List Wd) (p : Nat), Spn R L p l → l = [] ∨ p + l.length ≤ L.length
  | [], p, _ => .inl rfl
  | y :: l, p, h => by
    obtain ⟨h1, _, n, ht, _, hS⟩ := h
    have hn := tok_len ht
    rw [List.length_drop] at hn
    rcases spn_many l _ hS with rfl | h
    · right; simp; omega
    · right; rw [List.length_cons]; omega
theorem spn_at {R : List UInt8 → Bool} {L : List UInt8} : ∀ (l : List Wd) (p : Nat), Spn R L p l → ∀ x ∈ l, x.at' ≤ L.length
  | [], p, _, x, hx => by cases hx
  | y :: l, p, h, x, hx => by
    obtain ⟨h1, _, n, ht, _, hS⟩ := h
    have hn := tok_len ht
    rw [List.length_drop] at hn
    rcases List.mem_cons.1 hx with rfl | hx
    · omega
    · exact spn_at l _ hS x hx
theorem cutR_wdg {s : ByteArray} {ws : List Wd} (h : cutR s = .ok ws) : (∀ x ∈ ws, WdG x) ∧ ws.length ≤ 65535 ∧ s.size ≤ 65535 ∧ (∀ x ∈ ws, x.at' ≤ 65535) := by
  unfold cutR at h
  split at h
  · cases h
  · have hz : s.data.toList.length ≤ 65535 := by rw [← Lib.size_eq]; omega
    obtain ⟨l, e, hs⟩ := cut_spn refL s.data.toList _ 0 [] ws (Nat.le_refl _) (Nat.zero_le _) h
    rw [List.nil_append] at e
    subst e
    refine ⟨spn_wdg hz ws 0 hs, ?_, by omega, fun x hx => Nat.le_trans (spn_at ws 0 hs x hx) hz⟩
    rcases spn_many ws 0 hs with rfl | h
    · simp
    · omega
/-- The words of a whole formula: their places behind its first byte, and the end. -/
def allW (ws : List Wd) (n : Nat) : List Wd := ws.map (fun x => { x with at' := x.at' + 1 }) ++ [⟨0, [], n⟩]
theorem allW_len (ws : List Wd) (n : Nat) : (allW ws n).length = ws.length + 1 := by simp [allW]
theorem allW_last (ws : List Wd) (n : Nat) : wdAt (allW ws n) ws.length = ⟨0, [], n⟩ := by
  unfold wdAt allW
  rw [List.getD_eq_getElem?_getD, List.getElem?_append_right (by simp)]
  simp
theorem allW_at (ws : List Wd) (n j : Nat) (h : j < ws.length) : wdAt (allW ws n) j = { ws[j] with at' := ws[j].at' + 1 } := by
  unfold wdAt allW
  rw [List.getD_eq_getElem?_getD, List.getElem?_append_left (by simpa using h)]
  simp [h]
theorem allW_out (ws : List Wd) (n j : Nat) (h : ws.length < j) : wdAt (allW ws n) j = ⟨0, [], 0⟩ := by
  unfold wdAt allW
  rw [List.getD_eq_getElem?_getD, List.getElem?_eq_none (by simp; omega)]
  rfl
theorem allW_end (ws : List Wd) (n : Nat) : EndW (allW ws n) := by
  refine ⟨by rw [allW_len]; omega, ?_⟩
  rw [allW_len, Nat.add_sub_cancel, allW_last]
theorem allW_ok {ws : List Wd} {n : Nat} (h : ∀ x ∈ ws, WdG x) : WordOk (allW ws n) := by
  have hc : ∀ j, (j < ws.length ∧ ∃ y, WdG y ∧ (wdAt (allW ws n) j).kind = y.kind ∧ (wdAt (allW ws n) j).text = y.text) ∨ ((wdAt (allW ws n) j).kind = 0 ∧ (wdAt (allW ws n) j).text = []) := fun j => by
    rcases Nat.lt_trichotomy j ws.length with hj | rfl | hj
    · exact .inl ⟨hj, ws[j], h _ (List.getElem_mem hj), by rw [allW_at ws n j hj], by rw [allW_at ws n j hj]⟩
    · right; rw [allW_last]; exact ⟨rfl, rfl⟩
    · right; rw [allW_out ws n j hj]; exact ⟨rfl, rfl⟩
  refine ⟨fun j _ => ?_, fun j => ?_, fun j _ hk => ?_⟩
  · rcases hc j with ⟨_, y, hy, e1, _⟩ | ⟨e, _⟩
    · rw [e1]; exact hy.kind.2
    · rw [e]; omega
  · rcases hc j with ⟨_, y, hy, _, e2⟩ | ⟨_, e⟩
    · rw [e2, ba_size]; have := hy.size; omega
    · rw [e]; exact Nat.zero_le _
  · rcases hc j with ⟨_, y, hy, e1, e2⟩ | ⟨e, _⟩
    · rw [e2]; exact hy.num (by rw [← e1]; exact hk)
    · rw [e] at hk; cases hk
end Go.Proofs.YtdlomdbmmhjppaaGreatDoor.T9
namespace Go.Proofs.YtdlomdbmmhjppaaGreatDoor.T9
open Go.RowKit Go.Sort
set_option linter.unusedVariables false

/-- What is told of a tree that was read: the tree, or that it is too great. -/
def mayP (t : Ex) (n : Nat) : PR := if mayR t = 0 then .ok t 0 else .bad (mayR t).toNat n
/-- What the words come to. -/
def wdsR (n : Nat) : Res → PR
  | .bad i e => .bad e (1 + i)
  | .ok ws => match formP rdF Fd0 (allW ws n) with
    | .bad e a => .bad e a
    | .ok t _ => mayP t n
/-- What parse.Formula answers. -/
def parL (n : Nat) : List UInt8 → PR
  | [] => .bad 1 0
  | c :: r => if c = 61 then wdsR n (cutR (ba r)) else .bad 1 0
def parR (s : ByteArray) : PR := parL s.size s.data.toList
end Go.Proofs.YtdlomdbmmhjppaaGreatDoor.T9
