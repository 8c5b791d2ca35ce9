/- parse: a formula written with other blanks and small letters comes to the same tree, or to the same error at the same word; no Go in sight. ParseWords: what both readings come to, and where; and where its loop stands; of no program but parse.Formula's answer. ParseWords: what its walk leans on: a word as it is spelled, a row of places that grows, the argument's bytes. ParseWords where no words are compared: the text begins with no '=', or cannot be cut. Proved of the Go text. -/
import Derived.Test.YtdlomdbmmhjppaaGreatDoorFmJ
import Derived.Test.YtdlomdbmmhjppaaGreatDoorInJ
import Derived.Test.YtdlomdbmmhjppaaGreatDoorLoJ
import Derived.Test.YtdlomdbmmhjppaaGreatDoorBgJ
import Derived.Test.YtdlomdbmmhjppaaGreatDoorSpJ
import Derived.Deep.CutRange
namespace Go.Proofs.YtdlomdbmmhjppaaGreatDoor.T9
open Go.RowKit
set_option linter.unusedVariables false

theorem rdF_low (t : List UInt8) : rdF (t.map lw) = rdF t := by
  obtain ⟨h1, h2, h3, h4, h5, h6⟩ := ref_low t
  unfold rdF
  rw [h1, h3, h4, h5, h6]
theorem rdF_low3 (b : Bool) (t : List UInt8) : rdF (t.map (lowF 3 b)) = rdF t := by
  rw [low_eq (.inl rfl)]
  cases b
  · rw [low_false]
  · exact rdF_low t
theorem wd_zero (x : Wd) (l : List Wd) : wdAt (x :: l) 0 = x := rfl
theorem wd_succ (x : Wd) (l : List Wd) (i : Nat) : wdAt (x :: l) (i + 1) = wdAt l i := by unfold wdAt; simp
theorem allW_cons (x : Wd) (l : List Wd) (n : Nat) : allW (x :: l) n = { x with at' := x.at' + 1 } :: allW l n := rfl
theorem like_at (z sm : Nat → Bool) (n n' : Nat) : ∀ (l : List Wd) (p j a i : Nat), (wdAt (allW (blsS z sm p j a l) n') i).kind = (wdAt (allW l n) i).kind ∧ ((wdAt (allW l n) i).kind ≠ 3 → (wdAt (allW (blsS z sm p j a l) n') i).text = (wdAt (allW l n) i).text) ∧ ((wdAt (allW l n) i).kind = 3 → rdF (wdAt (allW (blsS z sm p j a l) n') i).text = rdF (wdAt (allW l n) i).text)
  | [], p, j, a, 0 => ⟨rfl, fun _ => rfl, fun _ => rfl⟩
  | [], p, j, a, i + 1 => by
    show (wdAt (allW [] n') (i + 1)).kind = (wdAt (allW [] n) (i + 1)).kind ∧ _
    unfold allW
    exact ⟨rfl, fun _ => rfl, fun _ => rfl⟩
  | x :: l, p, j, a, 0 => by
    rw [blsS, allW_cons, allW_cons, wd_zero, wd_zero]
    refine ⟨rdW_kind _ x, fun h => ?_, fun h => ?_⟩
    · show (rdW (sm j) x).text = x.text
      unfold rdW
      rw [if_neg h]
    · show rdF (rdW (sm j) x).text = rdF x.text
      unfold rdW
      rw [if_pos h]
      exact rdF_low3 _ _
  | x :: l, p, j, a, i + 1 => by
    rw [blsS, allW_cons, allW_cons, wd_succ, wd_succ]
    exact like_at z sm n n' l _ _ _ i
theorem like_words (z sm : Nat → Bool) (n n' : Nat) (l : List Wd) : Lk rdF (allW l n) (allW (blsS z sm 4 0 0 l) n') where
  len := by rw [allW_len, allW_len, blsS_len]
  kd i := (like_at z sm n n' l 4 0 0 i).1
  tx i := (like_at z sm n n' l 4 0 0 i).2.1
  rd i := (like_at z sm n n' l 4 0 0 i).2.2
  nx i hi hk := (allW_end l n).adv hi hk
/-- Both readings. -/
theorem same_read {r : List UInt8} {ws : List Wd} (h : cutR (ba r) = .ok ws) (z sm : Nat → Bool) (hz : (bldS z sm 4 0 ws).length ≤ 65535) (n n' : Nat) :
    PRk (allW ws n) (allW (blsS z sm 4 0 0 ws) n') (formP rdF Fd0 (allW ws n)) (formP rdF Fd0 (allW (blsS z sm 4 0 0 ws) n')) ∧ parL n (61 :: r) = wdsR n (.ok ws) ∧ parL n' (61 :: bldS z sm 4 0 ws) = wdsR n' (.ok (blsS z sm 4 0 0 ws)) := by
  refine ⟨alike_form (like_words z sm n n' ws) (by rw [allW_len]; omega), ?_, ?_⟩
  · show (if (61 : UInt8) = 61 then wdsR n (cutR (ba r)) else PR.bad 1 0) = _
    rw [if_pos rfl, h]
  · show (if (61 : UInt8) = 61 then wdsR n' (cutR (ba (bldS z sm 4 0 ws))) else PR.bad 1 0) = _
    rw [if_pos rfl, low_same h z sm hz]
end Go.Proofs.YtdlomdbmmhjppaaGreatDoor.T9
namespace Go.Proofs.YtdlomdbmmhjppaaGreatDoor.T9
open Go.RowKit Go.Sort
set_option linter.unusedVariables false

def erP : PR → Nat
  | .ok _ _ => 0
  | .bad e _ => e
def plP : PR → Nat
  | .ok _ _ => 0
  | .bad _ a => a
def trP : PR → Ex
  | .ok t _ => t
  | .bad _ _ => .mk ndZ []
theorem parse_tr {s : ByteArray} (hs : s.size ≤ maxLen) {p : PR} (hp : parR s = p) (w : World) (h8 : Lay8 w) : Calls Tryz.prog 11 #[.string s] w fun e w' => PaQ w (plP p) (erP p) (fun w' v => Tree w' v (trP p)) e w' := by
  cases p with
  | ok t j => exact parse_ok hs hp w h8
  | bad er a =>
    refine (parse_any s hs w h8).mono ?_
    intro e w' h
    rw [hp] at h
    obtain ⟨rfl, hb⟩ := h
    exact ⟨ndZ, none, 0, 0, rfl, hb, leaf_in _ _ ndZ (Nat.zero_le _)⟩
theorem parR_ba (L : List UInt8) : parR (ba L) = parL L.length L := by
  unfold parR
  rw [ba_size, ba_list]
/-- What is told of both texts. -/
structure Ends (ws : List Wd) (A : List Nat) (n n' : Nat) (p p' : PR) : Prop where
  er : erP p' = erP p
  tr : trP p' = trP p
  pl : erP p = 0 ∨ (plP p = n ∧ plP p' = n') ∨ ∃ i, ∃ hi : i < ws.length, plP p = ws[i].at' + 1 ∧ A[i]? = some (plP p') ∧ plP p ≠ n ∧ plP p' ≠ n' ∧ ∀ j, j < i → ∀ hj : j < ws.length, ws[j].at' + 1 ≠ plP p
theorem both_ends {r : List UInt8} {ws : List Wd} (h : cutR (ba r) = .ok ws) (z sm : Nat → Bool) (hz : (61 :: bldS z sm 4 0 ws).length ≤ 60000) :
    Ends ws (atsS z sm ws) (r.length + 1) (61 :: bldS z sm 4 0 ws).length (parR (ba (61 :: r))) (parR (ba (61 :: bldS z sm 4 0 ws))) := by
  have hz2 : (bldS z sm 4 0 ws).length ≤ 65535 := by rw [List.length_cons] at hz; omega
  obtain ⟨hk, e1, e2⟩ := same_read h z sm hz2 (r.length + 1) (61 :: bldS z sm 4 0 ws).length
  have hlow := low_same h z sm hz2
  rw [parR_ba, parR_ba, show (61 :: r).length = r.length + 1 from rfl, e1, e2]
  unfold wdsR
  simp only
  cases e : formP rdF Fd0 (allW ws (r.length + 1)) <;> cases e' : formP rdF Fd0 (allW (blsS z sm 4 0 0 ws) (61 :: bldS z sm 4 0 ws).length) <;> rw [e, e'] at hk
  · obtain ⟨rfl, i, hi, rfl, rfl⟩ := hk
    rw [allW_len] at hi
    refine ⟨rfl, rfl, .inr ?_⟩
    by_cases hl : i < ws.length
    · have hl' : i < (blsS z sm 4 0 0 ws).length := by rw [blsS_len]; exact hl
      obtain ⟨c1, c2⟩ := cut_at h i hl
      obtain ⟨d1, _⟩ := cut_at hlow i hl'
      refine .inr ⟨i, hl, ?_, ?_, ?_, ?_, fun j hj hjl => ?_⟩
      · show plAt _ i = _
        unfold plAt
        rw [allW_at _ _ _ hl]
      · show _ = some (plAt _ i)
        unfold plAt atsS
        rw [allW_at _ _ _ hl', List.getElem?_map, List.getElem?_eq_getElem hl']
        rfl
      · show plAt _ i ≠ _
        unfold plAt
        rw [allW_at _ _ _ hl]
        show ws[i].at' + 1 ≠ _
        omega
      · show plAt _ i ≠ _
        unfold plAt
        rw [allW_at _ _ _ hl', List.length_cons]
        show (blsS z sm 4 0 0 ws)[i].at' + 1 ≠ _
        omega
      · show _ ≠ plAt _ i
        unfold plAt
        rw [allW_at _ _ _ hl]
        show _ ≠ ws[i].at' + 1
        have := c2 j hj
        omega
    · obtain rfl : i = ws.length := by omega
      refine .inl ⟨?_, ?_⟩
      · show plAt _ _ = _
        unfold plAt
        rw [allW_last]
      · show plAt _ _ = _
        unfold plAt
        have := allW_last (blsS z sm 4 0 0 ws) (61 :: bldS z sm 4 0 ws).length
        rw [blsS_len] at this
        rw [this]
  · exact hk.elim
  · exact hk.elim
  · obtain ⟨rfl, rfl, _⟩ := hk
    show Ends _ _ _ _ (mayP _ _) (mayP _ _)
    unfold mayP
    split
    · exact ⟨rfl, rfl, .inl rfl⟩
    · exact ⟨rfl, rfl, .inr (.inl ⟨rfl, rfl⟩)⟩
/-- Where the loop stands: what is written, where the words are, the last one's kind. -/
structure PSt (z sm : Nat → Bool) (ws : List Wd) (i : Nat) (M : List UInt8) (A : List Nat) (p : Nat) : Prop where
  row : M = 61 :: bldS z sm 4 0 (ws.take i)
  ats : A = atsS z sm (ws.take i)
  kind : p = lastK 4 (ws.take i)
theorem PSt.start (z sm : Nat → Bool) (ws : List Wd) : PSt z sm ws 0 [61] [] 4 := ⟨rfl, rfl, rfl⟩
theorem PSt.step {z sm : Nat → Bool} {ws : List Wd} {i p : Nat} {M : List UInt8} {A : List Nat} (h : PSt z sm ws i M A p) (hi : i < ws.length) :
    PSt z sm ws (i + 1) (M ++ gapS (z i) p ++ spS (sm i) ws[i]) (A ++ [(M ++ gapS (z i) p).length]) ws[i].kind := by
  obtain ⟨rfl, rfl, rfl⟩ := h
  refine ⟨?_, ?_, ?_⟩
  · rw [bldS_take z sm ws i hi]
    simp only [List.cons_append]
  · rw [List.take_succ_eq_append_getElem hi, atsS_snoc, List.length_take, Nat.min_eq_left (Nat.le_of_lt hi)]
  · rw [lastK_take ws i hi]
theorem PSt.prev {z sm : Nat → Bool} {ws : List Wd} {i p : Nat} {M : List UInt8} {A : List Nat} (h : PSt z sm ws i M A p) (hi : i ≤ ws.length) : (i = 0 → p = 4) ∧ ∀ j (hj : j < ws.length), i = j + 1 → ws[j].kind = p := by
  obtain ⟨_, _, rfl⟩ := h
  refine ⟨fun e => by subst e; rfl, fun j hj e => ?_⟩
  subst e
  rw [lastK_take ws j hi]
theorem PSt.done {z sm : Nat → Bool} {ws : List Wd} {p : Nat} {M : List UInt8} {A : List Nat} (h : PSt z sm ws ws.length M A p) : M = 61 :: bldS z sm 4 0 ws ∧ A = atsS z sm ws := by
  obtain ⟨e1, e2, _⟩ := h
  rw [List.take_length] at e1 e2
  exact ⟨e1, e2⟩
end Go.Proofs.YtdlomdbmmhjppaaGreatDoor.T9
namespace Go.Proofs.YtdlomdbmmhjppaaGreatDoor.T9
open Go.RowKit Go.Sort
set_option linter.unusedVariables false

theorem bytes_size (w : World) (s : ByteArray) : s.size ≤ (Lib.bytesCells w 5 s).size := by
  by_cases h0 : s.size = 0
  · omega
  · have h := Lib.bytesWorld_cell w 5 s (s.size - 1) (by omega)
    unfold World.cell? at h
    simp [Lib.bytesWorld_at_new] at h
    have := (Array.getElem?_eq_some_iff.1 h).1
    omega
theorem spS_call (b : Bool) (x : Wd) (hx : x.text.length ≤ 65535) (i : Int) (w : World) : Calls Tryz.prog 16 #[wdV x.kind (ba x.text) i, .bool b] w fun e w' => SplP w w' (spS b x) e := by
  unfold spS
  by_cases h : x.kind = 2
  · rw [if_pos h, h]
    have := spl10_text (ba x.text) i b w (by rw [ba_size]; exact hx)
    rw [ba_list] at this
    exact this
  · rw [if_neg h]
    have := spl10_other x.kind (ba x.text) i b w h (by rw [ba_size]; exact hx) (bytes_size _ _)
    rw [ba_list] at this
    exact this
theorem spS_short {b : Bool} {x : Wd} (h : x.text.length ≤ 65535) : (spS b x).length ≤ 131072 := by
  unfold spS
  split
  · have := dbl_le x.text
    simp; omega
  · rw [List.length_map]; omega
theorem info_int : (Tryz.prog.info? 3).map (fun i => (i.zero, i.size, i.bytes)) = some (some (.int .i64 0), 1, 8) := by kernel_rfl
/-- A row of places of one's own. -/
def RowAt (w : World) (B : Nat) (v : Value) (A : List Nat) : Prop := w.ownsRow B 3 1 v A.length (A.map fun n : Nat => Value.int .i64 (n : Int))
theorem RowAt.nil (w : World) (B : Nat) : RowAt w B (.slice none 0 0) [] := World.ownsRow_nil w B _ _
theorem RowAt.keep {w w' : World} {B : Nat} {v : Value} {A : List Nat} (h : RowAt w B v A) (hb : Below w.heap.size w w') : RowAt w' B v A := row_keep h hb
theorem RowAt.slice {w : World} {B : Nat} {v : Value} {A : List Nat} (h : RowAt w B v A) : ∃ a c, v = .slice a A.length c := row_slice h
theorem RowAt.at {w : World} {B g n cap : Nat} {A : List Nat} (hn : n = A.length) (h : RowAt w B (.slice (some ⟨g, 0, none⟩) n cap) A) (j a : Nat) (hj : A[j]? = some a) : w.cell? ⟨g, j, none⟩ = some (.int .i64 (a : Int)) := by
  subst hn
  have := World.ownsRow.cells h (g := g) rfl j (.int .i64 (a : Int)) (by rw [List.getElem?_map, hj]; rfl)
  rwa [show (⟨g, 0, none⟩ : Addr).add j = ⟨g, j, none⟩ by unfold Addr.add; split <;> simp_all] at this
theorem RowAt.some {w : World} {B n : Nat} {a : Option Addr} {c : Nat} {A : List Nat} (hn : n = A.length) (h : RowAt w B (.slice a n c) A) (h0 : n ≠ 0) : ∃ g, a = some ⟨g, 0, none⟩ ∧ B ≤ g := by
  subst hn
  rcases h.2 with ⟨e, hn⟩ | ⟨g, cap, cur, e, hb, _⟩
  · omega
  · exact ⟨g, by cases e; rfl, hb⟩
theorem row_some9 {w : World} {B n : Nat} {a : Option Addr} {c : Nat} {l : List Wd} (hn : n = l.length) (h : RowW w B (.slice a n c) l) (h0 : n ≠ 0) : ∃ g, a = some ⟨g, 0, none⟩ ∧ B ≤ g := by
  subst hn
  rcases h.2 with ⟨e, hn⟩ | ⟨g, cap, cur, e, hb, _⟩
  · omega
  · exact ⟨g, by cases e; rfl, hb⟩
/-- Two rows of unlike kinds are apart. -/
theorem own_apart {w : World} {B B' : Nat} {e e' : TypeId} {n n' m m' : Nat} {v v' : Value} {xs xs' : List Value} (h : w.ownsRow B e n v m xs) (h' : w.ownsRow B' e' n' v' m' xs') (hne : e ≠ e') : v.ownBlock = none ∨ v.ownBlock ≠ v'.ownBlock := by
  cases hv : v.ownBlock with
  | none => exact .inl rfl
  | some g => exact .inr (fun q => rows_ne h h' hne g hv q.symm)
theorem ownsRow_lt {w : World} {B e n m : Nat} {v : Value} {xs : List Value} (h : w.ownsRow B e n v m xs) : ∀ k, v.ownBlock = some k → B ≤ k ∧ k < w.heap.size := World.ownsRow.lt h
section
variable {w : World} {ops : Array Oper} {rest : List Oper} {o : Oper} {a : Act} {Q : Exit → Act → World → Prop} {B X c : Nat} {v : Value} {A : List Nat}
theorem wpList_appAt (hg : o.guard = none) (s x : Operand) (hop : o.op = Op.call { callee := Callee.builtin Builtin.append, args := #[s, x], argTypes := #[42, 42] })
    (hs : a.eval s = v) (hx : a.eval x = .slice (some ⟨X, 0, none⟩) 1 1) (hown : RowAt w B v A) (hc : w.cell? ⟨X, 0, none⟩ = some (.int .i64 (c : Int))) (hl : A.length < 1000000) (hB : B ≤ w.heap.size)
    (hK : ∀ v' w', RowAt w' B v' (A ++ [c]) → w.grownBy w' v.ownBlock → wpList Tryz.prog ops Q rest (a.put o.dst v') w') : wpList Tryz.prog ops Q (o :: rest) a w := by
  obtain ⟨i0, hi, hz0, hz1, hz2⟩ := info_parts info_int
  refine wpList_append_own _ hg s x 42 hop B 3 i0 (.int .i64 0) 1 8 Tryz.underlying42 hi hz0 hz1 hz2 rfl (by decide) v _ _ hs hown ⟨X, 0, none⟩ 1 1 [.int .i64 (c : Int)] hx rfl (fun j u hj => by
    match j, hj with
    | 0, hj => simp at hj; subst hj; rw [show (⟨X, 0, none⟩ : Addr).add 0 = ⟨X, 0, none⟩ by unfold Addr.add; split <;> simp_all]; exact hc) (fun u hu => by simp at hu; subst hu; rfl) (by unfold maxLen; omega) (by omega) hB ?_
  intro v' w' h1 h2 _
  exact hK v' w' (by unfold RowAt; rw [List.length_append, List.map_append]; exact h1) h2
end
/-- The argument's bytes as a function. -/
theorem bytes_fun9 {w : World} {a : Option Addr} {len : Nat} (h : BytesIn w a len) : ∃ F : Nat → Nat, (len = 0 ∧ ∀ j, F j = 0) ∨ (0 < len ∧ len ≤ maxLen ∧ ∃ b off, a = some ⟨b, off, none⟩ ∧ ∀ j, j < len → F j < 256 ∧ w.cell? ⟨b, off + j, none⟩ = some (.int .u8 (F j : Int))) := by
  by_cases h0 : len = 0
  · exact ⟨fun _ => 0, .inl ⟨h0, fun _ => rfl⟩⟩
  · obtain ⟨b, off, e, hm, hj⟩ := h.resolve_left h0
    refine ⟨fun j => if h : j < len then Classical.choose (hj j h) else 0, .inr ⟨by omega, hm, b, off, e, fun j h => ?_⟩⟩
    simp only [dif_pos h]
    exact Classical.choose_spec (hj j h)
end Go.Proofs.YtdlomdbmmhjppaaGreatDoor.T9
namespace Go.Proofs.YtdlomdbmmhjppaaGreatDoor.T9
open Go.RowKit Go.Sort
set_option linter.unusedVariables false

theorem ext_mid (L : List UInt8) (k i : Nat) (h : k ≤ i) (hi : i ≤ L.length) : (ba L).extract k i = ba ((L.drop k).take (i - k)) := by
  apply ByteArray.ext
  apply Array.ext'
  simp
theorem ext_drop (L : List UInt8) (k : Nat) (h : k ≤ L.length) : (ba L).extract k (ba L).size = ba (L.drop k) := by
  rw [ba_size, ext_mid L k L.length h (Nat.le_refl _), List.take_of_length_le (by rw [List.length_drop]; exact Nat.le_refl _)]
theorem cut_from (L : List UInt8) (k : Nat) (h : k ≤ L.length) (w : World) : (Instr.slice 9 (.string (ba L)) (some (.int .i64 (k : Int))) none none).run Tryz.prog w = .ok (.string (ba (L.drop k))) w := by
  rw [run_slice_string_l w 9 (ba L) Tryz.underlying9 .i64 (k : Int) (by omega) (by rw [ba_size]; omega), Int.toNat_natCast, ext_drop L k h]
theorem par_nil (n : Nat) : parL n [] = .bad 1 0 := rfl
theorem par_not {c : UInt8} {r : List UInt8} (n : Nat) (h : ¬ c = 61) : parL n (c :: r) = .bad 1 0 := by
  show (if c = 61 then wdsR n (cutR (ba r)) else PR.bad 1 0) = _
  rw [if_neg h]
set_option maxHeartbeats 4000000 in
set_option maxRecDepth 100000 in
theorem pw_nil (v : Value) (w : World) (h8 : Lay8 w) : Calls Tryz.prog 5 #[.string no, v] w fun e w' => e = .returned (.bool true) ∧ Below w.heap.size w w' := by
  have HB := hide (begun10 w h8)
  have HP := hide (fun w' (hb : Below w.heap.size w w') => parse_no (s := no) (by decide) (show parR no = .bad 1 0 from rfl) w' (h8.keep hb))
  clear h8
  go_enter Tryz.func5, Tryz.ntmps5
  go_wp2_with (first
    | (have hq := B1; go_at_call 11; refine (HP.out _ B1.out).mono ?_; rintro e w2 ⟨n2, a2, l2, c2, rfl, hb, _⟩; clear hq; have hs2 := run_putnew w2 n2 a2 l2 c2; have B2 := hide (step (next B1.out hb) (exO n2 (.slice a2 l2 c2))); clear hb B1)
    | (go_at_call 9; refine HB.out.mono ?_; rintro e w1 ⟨rfl, hb⟩; have B1 := hide hb; clear hb))
  go_ret
  exact ⟨rfl, B2.out⟩
theorem ba_get (c : UInt8) (r : List UInt8) (h : 0 < (ba (c :: r)).size) : (ba (c :: r))[0] = c := rfl
set_option maxHeartbeats 4000000 in
set_option maxRecDepth 100000 in
theorem pw_not (c : UInt8) (r : List UInt8) (hc : ¬ c = 61) (hs : (ba (c :: r)).size ≤ maxLen) (v : Value) (w : World) (h8 : Lay8 w) : Calls Tryz.prog 5 #[.string (ba (c :: r)), v] w fun e w' => e = .returned (.bool true) ∧ Below w.heap.size w w' := by
  have HB := hide (begun10 w h8)
  have HP := hide (fun w' (hb : Below w.heap.size w w') => parse_no hs (show parR (ba (c :: r)) = .bad 1 0 from par_not _ hc) w' (h8.keep hb))
  have hz : 0 < (ba (c :: r)).size := by rw [ba_size, List.length_cons]; omega
  have hz2 : (0 : Int) < (ba (c :: r)).size := by omega
  have eg := ba_get c r hz
  have ef := isEmpty_ne _ hz
  have e61 : ((c.toNat : Int) != 61) = true := by
    rw [bne_iff_ne]
    intro e
    exact hc (UInt8.toNat_inj.1 (by show c.toNat = 61; omega))
  rw [← eg] at e61
  generalize ba (c :: r) = s at *
  clear h8 eg
  go_enter Tryz.func5, Tryz.ntmps5
  go_wp2_with (first
    | (have hq := B1; go_at_call 11; refine (HP.out _ B1.out).mono ?_; rintro e w2 ⟨n2, a2, l2, c2, rfl, hb, _⟩; clear hq; have hs2 := run_putnew w2 n2 a2 l2 c2; have B2 := hide (step (next B1.out hb) (exO n2 (.slice a2 l2 c2))); clear hb B1)
    | (go_at_call 9; refine HB.out.mono ?_; rintro e w1 ⟨rfl, hb⟩; have B1 := hide hb; clear hb))
  go_ret
  exact ⟨rfl, B2.out⟩
set_option maxHeartbeats 4000000 in
set_option maxRecDepth 100000 in
theorem pw_bad (r : List UInt8) (i er : Nat) (hc : cutR (ba r) = .bad i er) (he : er ≠ 0) (hs : (ba (61 :: r)).size ≤ maxLen) (v : Value) (w : World) (h8 : Lay8 w) : Calls Tryz.prog 5 #[.string (ba (61 :: r)), v] w fun e w' => e = .returned (.bool true) ∧ Below w.heap.size w w' := by
  have HB := hide (begun10 w h8)
  have HP := hide (fun w' (hb : Below w.heap.size w w') => parse_no hs (show parR (ba (61 :: r)) = .bad er (1 + i) from by
    show (if (61 : UInt8) = 61 then wdsR (ba (61 :: r)).size (cutR (ba r)) else PR.bad 1 0) = _
    rw [if_pos rfl, hc]
    rfl) w' (h8.keep hb))
  have HC := hide (fun w' (hb : Below w.heap.size w w') => cut8 (ba r) w' (h8.keep hb) (by rw [ba_size] at hs ⊢; rw [List.length_cons] at hs; omega))
  rw [hc] at HC
  have hz : 0 < (ba (61 :: r)).size := by rw [ba_size, List.length_cons]; omega
  have hz2 : (0 : Int) < (ba (61 :: r)).size := by omega
  have eg := ba_get 61 r hz
  have ef := isEmpty_ne _ hz
  have e61 : (((61 : UInt8).toNat : Int) != 61) = false := rfl
  have sl : ∀ w, (Instr.slice 9 (.string (ba (61 :: r))) (some (.int .i64 1)) none none).run Tryz.prog w = .ok (.string (ba r)) w := fun w => cut_from (61 :: r) 1 (by simp) w
  have en : ((er : Int) != 0) = true := by rw [bne_iff_ne]; omega
  rw [← eg] at e61
  generalize ba (61 :: r) = s at *
  clear h8 eg
  go_enter Tryz.func5, Tryz.ntmps5
  go_wp2_with (first
    | (have hq := B2; go_at_call 11; refine (HP.out _ B2.out).mono ?_; rintro e w3 ⟨n2, a2, l2, c2, rfl, hb, _⟩; clear hq; have hs2 := run_putnew w3 n2 a2 l2 c2; have B3 := hide (step (next B2.out hb) (exO n2 (.slice a2 l2 c2))); clear hb B2)
    | (have hq := B1; go_at_call 15; refine (HC.out _ B1.out).mono ?_; rintro e w2 ⟨hb, rfl⟩; clear hq; have B2 := hide (next B1.out hb); clear hb B1)
    | (go_at_call 9; refine HB.out.mono ?_; rintro e w1 ⟨rfl, hb⟩; have B1 := hide hb; clear hb))
  go_ret
  exact ⟨rfl, B3.out⟩
end Go.Proofs.YtdlomdbmmhjppaaGreatDoor.T9
