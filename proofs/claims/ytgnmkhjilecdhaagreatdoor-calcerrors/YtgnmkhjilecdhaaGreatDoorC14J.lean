/- calc.Call of a function of class scalar, and of class asking, by its row; how arguments are looked at, one by one. Lists of values of one's own that grow. -/
import Derived.Test.YtgnmkhjilecdhaaGreatDoorCall14
import Derived.Maps.AppendAt
namespace Go.Proofs.YtgnmkhjilecdhaaGreatDoor
open Go.RowKit Go.Sort
set_option linter.unusedVariables false

theorem vals1 (w : World) (x : Va) : ValsAt (w.alloc (.cells #[.int .i64 x.k, .int .i64 x.i, .string x.t] 30)) (some ⟨w.heap.size, 0, none⟩) [x] := by
  refine .inr ⟨_, _, rfl, fun j z hz => ?_⟩
  match j, hz with
  | 0, hz => obtain rfl : x = z := by simpa using hz
             refine ⟨?_, ?_, ?_⟩ <;> go_simp
theorem vals3 (w : World) (x y z : Va) : ValsAt (w.alloc (.cells #[.int .i64 x.k, .int .i64 x.i, .string x.t, .int .i64 y.k, .int .i64 y.i, .string y.t, .int .i64 z.k, .int .i64 z.i, .string z.t] 30)) (some ⟨w.heap.size, 0, none⟩) [x, y, z] := by
  refine .inr ⟨_, _, rfl, fun j q hz => ?_⟩
  match j, hz with
  | 0, hz => obtain rfl : x = q := by simpa using hz
             refine ⟨?_, ?_, ?_⟩ <;> go_simp
  | 1, hz => obtain rfl : y = q := by simpa using hz
             refine ⟨?_, ?_, ?_⟩ <;> go_simp
  | 2, hz => obtain rfl : z = q := by simpa using hz
             refine ⟨?_, ?_, ?_⟩ <;> go_simp
theorem vals4 (w : World) (x y z u : Va) : ValsAt (w.alloc (.cells #[.int .i64 x.k, .int .i64 x.i, .string x.t, .int .i64 y.k, .int .i64 y.i, .string y.t, .int .i64 z.k, .int .i64 z.i, .string z.t, .int .i64 u.k, .int .i64 u.i, .string u.t] 30)) (some ⟨w.heap.size, 0, none⟩) [x, y, z, u] := by
  refine .inr ⟨_, _, rfl, fun j q hz => ?_⟩
  match j, hz with
  | 0, hz => obtain rfl : x = q := by simpa using hz
             refine ⟨?_, ?_, ?_⟩ <;> go_simp
  | 1, hz => obtain rfl : y = q := by simpa using hz
             refine ⟨?_, ?_, ?_⟩ <;> go_simp
  | 2, hz => obtain rfl : z = q := by simpa using hz
             refine ⟨?_, ?_, ?_⟩ <;> go_simp
  | 3, hz => obtain rfl : u = q := by simpa using hz
             refine ⟨?_, ?_, ?_⟩ <;> go_simp
/-- A value as a letter asks for it. -/
abbrev AsIs (c : Nat) (x y : Va) : Prop := CallT 118 #[.int .u8 (c : Int), x.v] y.v
theorem look_of (asks : ByteArray) (xs ys : List Va) (hl : xs.length ≤ maxLen) (hn : ys.length = asks.size) (h0 : 0 < asks.size) (h4 : asks.size ≤ 4)
    (HA : ∀ (j : Nat) (x y : Va) (h : j < asks.size), xs[j]? = some x → ys[j]? = some y → AsIs asks[j].toNat x y) (HB : ∀ (j : Nat) (y : Va), xs.length ≤ j → ys[j]? = some y → y = ⟨1, 1, no⟩) : LookIs asks xs ys :=
  fun w a cap hT hv => looked_any asks xs ys a cap w hT hv hl hn h0 h4 HA HB
theorem look1 (c0 : UInt8) (x0 y0 : Va) (h0 : AsIs c0.toNat x0 y0) : LookIs ⟨#[c0]⟩ [x0] [y0] :=
  look_of _ _ _ (by show 1 ≤ maxLen; unfold maxLen; decide) rfl (by show 0 < 1; decide) (by show 1 ≤ 4; decide) (fun j x y hj hx hy => by
    match j, hj, hx, hy with
    | 0, hj, hx, hy => obtain rfl : x0 = x := by simpa using hx
                       obtain rfl : y0 = y := by simpa using hy
                       exact h0) (fun j y hj hy => by
    match j, hj, hy with
    | j + 1, hj, hy => simp at hy)
theorem look2 (c0 c1 : UInt8) (x0 x1 y0 y1 : Va) (h0 : AsIs c0.toNat x0 y0) (h1 : AsIs c1.toNat x1 y1) : LookIs ⟨#[c0, c1]⟩ [x0, x1] [y0, y1] :=
  look_of _ _ _ (by show 2 ≤ maxLen; unfold maxLen; decide) rfl (by show 0 < 2; decide) (by show 2 ≤ 4; decide) (fun j x y hj hx hy => by
    match j, hj, hx, hy with
    | 0, hj, hx, hy => obtain rfl : x0 = x := by simpa using hx
                       obtain rfl : y0 = y := by simpa using hy
                       exact h0
    | 1, hj, hx, hy => obtain rfl : x1 = x := by simpa using hx
                       obtain rfl : y1 = y := by simpa using hy
                       exact h1) (fun j y hj hy => by
    match j, hj, hy with
    | j + 2, hj, hy => simp at hy)
theorem look21 (c0 c1 : UInt8) (x0 y0 : Va) (h0 : AsIs c0.toNat x0 y0) : LookIs ⟨#[c0, c1]⟩ [x0] [y0, ⟨1, 1, no⟩] :=
  look_of _ _ _ (by show 1 ≤ maxLen; unfold maxLen; decide) rfl (by show 0 < 2; decide) (by show 2 ≤ 4; decide) (fun j x y hj hx hy => by
    match j, hj, hx, hy with
    | 0, hj, hx, hy => obtain rfl : x0 = x := by simpa using hx
                       obtain rfl : y0 = y := by simpa using hy
                       exact h0
    | j + 1, hj, hx, hy => simp at hx) (fun j y hj hy => by
    match j, hj, hy with
    | 1, hj, hy => simpa using hy.symm
    | j + 2, hj, hy => simp at hy)
theorem look3 (c0 c1 c2 : UInt8) (x0 x1 x2 y0 y1 y2 : Va) (h0 : AsIs c0.toNat x0 y0) (h1 : AsIs c1.toNat x1 y1) (h2 : AsIs c2.toNat x2 y2) : LookIs ⟨#[c0, c1, c2]⟩ [x0, x1, x2] [y0, y1, y2] :=
  look_of _ _ _ (by show 3 ≤ maxLen; unfold maxLen; decide) rfl (by show 0 < 3; decide) (by show 3 ≤ 4; decide) (fun j x y hj hx hy => by
    match j, hj, hx, hy with
    | 0, hj, hx, hy => obtain rfl : x0 = x := by simpa using hx
                       obtain rfl : y0 = y := by simpa using hy
                       exact h0
    | 1, hj, hx, hy => obtain rfl : x1 = x := by simpa using hx
                       obtain rfl : y1 = y := by simpa using hy
                       exact h1
    | 2, hj, hx, hy => obtain rfl : x2 = x := by simpa using hx
                       obtain rfl : y2 = y := by simpa using hy
                       exact h2) (fun j y hj hy => by
    match j, hj, hy with
    | j + 3, hj, hy => simp at hy)
theorem look32 (c0 c1 c2 : UInt8) (x0 x1 y0 y1 : Va) (h0 : AsIs c0.toNat x0 y0) (h1 : AsIs c1.toNat x1 y1) : LookIs ⟨#[c0, c1, c2]⟩ [x0, x1] [y0, y1, ⟨1, 1, no⟩] :=
  look_of _ _ _ (by show 2 ≤ maxLen; unfold maxLen; decide) rfl (by show 0 < 3; decide) (by show 3 ≤ 4; decide) (fun j x y hj hx hy => by
    match j, hj, hx, hy with
    | 0, hj, hx, hy => obtain rfl : x0 = x := by simpa using hx
                       obtain rfl : y0 = y := by simpa using hy
                       exact h0
    | 1, hj, hx, hy => obtain rfl : x1 = x := by simpa using hx
                       obtain rfl : y1 = y := by simpa using hy
                       exact h1
    | j + 2, hj, hx, hy => simp at hx) (fun j y hj hy => by
    match j, hj, hy with
    | 2, hj, hy => simpa using hy.symm
    | j + 3, hj, hy => simp at hy)
theorem look4 (c0 c1 c2 c3 : UInt8) (x0 x1 x2 x3 y0 y1 y2 y3 : Va) (h0 : AsIs c0.toNat x0 y0) (h1 : AsIs c1.toNat x1 y1) (h2 : AsIs c2.toNat x2 y2) (h3 : AsIs c3.toNat x3 y3) : LookIs ⟨#[c0, c1, c2, c3]⟩ [x0, x1, x2, x3] [y0, y1, y2, y3] :=
  look_of _ _ _ (by show 4 ≤ maxLen; unfold maxLen; decide) rfl (by show 0 < 4; decide) (by show 4 ≤ 4; decide) (fun j x y hj hx hy => by
    match j, hj, hx, hy with
    | 0, hj, hx, hy => obtain rfl : x0 = x := by simpa using hx
                       obtain rfl : y0 = y := by simpa using hy
                       exact h0
    | 1, hj, hx, hy => obtain rfl : x1 = x := by simpa using hx
                       obtain rfl : y1 = y := by simpa using hy
                       exact h1
    | 2, hj, hx, hy => obtain rfl : x2 = x := by simpa using hx
                       obtain rfl : y2 = y := by simpa using hy
                       exact h2
    | 3, hj, hx, hy => obtain rfl : x3 = x := by simpa using hx
                       obtain rfl : y3 = y := by simpa using hy
                       exact h3) (fun j y hj hy => by
    match j, hj, hy with
    | j + 4, hj, hy => simp at hy)
theorem as_int (n : Int) : AsIs 110 ⟨1, n, no⟩ ⟨1, n, no⟩ := (as_n 1 n no n (vnum_plain 1 n no rfl rfl (sound_good (good_int n)))).t
theorem as_txt (s : ByteArray) (h : s.size ≤ 32767) : AsIs 116 ⟨3, 0, s⟩ ⟨3, 0, s⟩ := as_t 3 0 s s (vtxt_plain 3 0 s rfl rfl rfl (sound_good (good_text h))).t
/-- What the catalogue tells of a function. -/
theorem info_is (k : Nat) (hk : k < 76) : InfoIs ((k : Int) + 1) (T9.tab[k]'(by rw [T9.tab_len]; exact hk)).1 (T9.clsOf ((k : Int) + 1)) (T9.tab[k]'(by rw [T9.tab_len]; exact hk)).2.1 (T9.tab[k]'(by rw [T9.tab_len]; exact hk)).2.2 0 := fun w => T9.info_yes k hk w
theorem info_at (k : Nat) (nm : ByteArray) (c mn mx : Int) (h : T9.tab[k]? = some (nm, mn, mx)) (hc : T9.clsOf ((k : Int) + 1) = c) : InfoIs ((k : Int) + 1) nm c mn mx 0 := by
  obtain ⟨hk, he⟩ := List.getElem?_eq_some_iff.1 h
  have := info_is k (by rw [← T9.tab_len]; exact hk)
  rw [hc, he] at this
  exact this
/-- A function of class scalar. -/
theorem callS (k : Nat) (hk : k < 35) (nm : ByteArray) (mn mx : Int) (h : T9.tab[k]? = some (nm, mn, mx)) (asks : ByteArray) (fn : Nat) (hr : rtab[k]? = some (asks, fn)) (hf : fn ≠ 0) (hent : ∀ args w, (callFunc fn args).run Tryz.prog w = .ok (.enter fn args) w)
    (xs ys : List Va) (out : Va) (a : Option Addr) (cap : Nat) (w : World) (HT : Tb w) (hv : ValsAt w a xs) (hl : xs.length ≤ maxLen) (hmn : ¬ (xs.length : Int) < mn) (hmx : ¬ mx < (xs.length : Int)) (hg : ∀ x ∈ xs, Good x.k x.i x.t)
    (hlk : fe xs = none → LookIs asks xs ys) (hy : ys.length ≤ maxLen) (hd : fe xs = none → fe ys = none → DoIs fn ys out) :
    Calls Tryz.prog 6 #[.int .i64 ((k : Int) + 1), .slice a xs.length cap] w fun e w' => e = .returned (.tuple #[(scV xs ys out).v, .int .i64 0]) ∧ Below w.heap.size w w' := by
  have hc : T9.clsOf ((k : Int) + 1) = 1 := by unfold T9.clsOf; rw [if_pos (by omega)]
  exact call_sc _ xs a cap w HT hv hl nm mn mx (info_at k nm 1 mn mx h hc) hmn hmx (fun j x hx => vmay_yes (hg x (List.mem_of_getElem? hx))) asks fn (fun w => index42 k (by omega) asks fn hr hf w) _ _ _
    (hide (fun w' a' cap' hT' hv' => scalar_any asks fn xs ys out a' cap' w' hT' hv' hl hlk hy hd hent))
/-- A function of class asking. -/
theorem callA (k : Nat) (hk1 : 35 ≤ k) (hk : k < 41) (nm : ByteArray) (mn mx : Int) (h : T9.tab[k]? = some (nm, mn, mx)) (asks : ByteArray) (fn : Nat) (hr : rtab[k]? = some (asks, fn)) (hf : fn ≠ 0) (hent : ∀ args w, (callFunc fn args).run Tryz.prog w = .ok (.enter fn args) w)
    (xs : List Va) (out : Va) (a : Option Addr) (cap : Nat) (w : World) (HT : Tb w) (hv : ValsAt w a xs) (hl : xs.length ≤ maxLen) (hmn : ¬ (xs.length : Int) < mn) (hmx : ¬ mx < (xs.length : Int)) (hg : ∀ x ∈ xs, Good x.k x.i x.t) (hd : DoIs fn xs out) :
    Calls Tryz.prog 6 #[.int .i64 ((k : Int) + 1), .slice a xs.length cap] w fun e w' => e = .returned (.tuple #[out.v, .int .i64 0]) ∧ Below w.heap.size w w' := by
  have hc : T9.clsOf ((k : Int) + 1) = 2 := by unfold T9.clsOf; rw [if_neg (by omega), if_pos (by omega)]
  exact call_ask _ xs a cap w HT hv hl nm mn mx (info_at k nm 2 mn mx h hc) hmn hmx (fun j x hx => vmay_yes (hg x (List.mem_of_getElem? hx))) asks fn (fun w => index42 k (by omega) asks fn hr hf w) _ _ _ (hide hd) hent
theorem scV_out {xs ys : List Va} {out : Va} (h : fe xs = none) (g : fe ys = none) : scV xs ys out = out := by unfold scV; rw [h, g]
theorem scV_err {xs ys : List Va} {out e : Va} (h : fe xs = some e) : scV xs ys out = e := by unfold scV; rw [h]
theorem do1 {fn : Nat} {y0 out : Va} (h : ∀ (b o cap : Nat) (w : World), Tb w → VaAt w b o y0 → Calls Tryz.prog fn #[.slice (some ⟨b, o, none⟩) 1 cap] w fun e w' => e = .returned out.v ∧ Below w.heap.size w w') : DoIs fn [y0] out := by
  intro w a cap HT hv
  rcases hv with hv | ⟨b, o, rfl, hv⟩
  · cases hv
  · exact h b o cap w HT (hv 0 y0 rfl)
theorem do2 {fn : Nat} {y0 y1 out : Va} (h : ∀ (b o cap : Nat) (w : World), Tb w → VaAt w b o y0 → VaAt w b (o + 3) y1 → Calls Tryz.prog fn #[.slice (some ⟨b, o, none⟩) 2 cap] w fun e w' => e = .returned out.v ∧ Below w.heap.size w w') : DoIs fn [y0, y1] out := by
  intro w a cap HT hv
  rcases hv with hv | ⟨b, o, rfl, hv⟩
  · cases hv
  · exact h b o cap w HT (hv 0 y0 rfl) (hv 1 y1 rfl)
theorem do3 {fn : Nat} {y0 y1 y2 out : Va} (h : ∀ (b o cap : Nat) (w : World), Tb w → VaAt w b o y0 → VaAt w b (o + 3) y1 → VaAt w b (o + 6) y2 → Calls Tryz.prog fn #[.slice (some ⟨b, o, none⟩) 3 cap] w fun e w' => e = .returned out.v ∧ Below w.heap.size w w') : DoIs fn [y0, y1, y2] out := by
  intro w a cap HT hv
  rcases hv with hv | ⟨b, o, rfl, hv⟩
  · cases hv
  · exact h b o cap w HT (hv 0 y0 rfl) (hv 1 y1 rfl) (hv 2 y2 rfl)
theorem do4 {fn : Nat} {y0 y1 y2 y3 out : Va} (h : ∀ (b o cap : Nat) (w : World), Tb w → VaAt w b o y0 → VaAt w b (o + 3) y1 → VaAt w b (o + 6) y2 → VaAt w b (o + 9) y3 → Calls Tryz.prog fn #[.slice (some ⟨b, o, none⟩) 4 cap] w fun e w' => e = .returned out.v ∧ Below w.heap.size w w') : DoIs fn [y0, y1, y2, y3] out := by
  intro w a cap HT hv
  rcases hv with hv | ⟨b, o, rfl, hv⟩
  · cases hv
  · exact h b o cap w HT (hv 0 y0 rfl) (hv 1 y1 rfl) (hv 2 y2 rfl) (hv 3 y3 rfl)
end Go.Proofs.YtgnmkhjilecdhaaGreatDoor
namespace Go.Proofs.YtgnmkhjilecdhaaGreatDoor
open Go.RowKit Go.Sort
set_option linter.unusedVariables false

theorem info_parts {P : Program} {t : TypeId} {z : Value} {n b : Nat} (h : (P.info? t).map (fun i => (i.zero, i.size, i.bytes)) = some (some z, n, b)) : ∃ i, P.info? t = some i ∧ i.zero = some z ∧ i.size = n ∧ i.bytes = b := by
  cases hq : P.info? t with
  | none => simp [hq] at h
  | some i => simp [hq] at h; exact ⟨i, rfl, h.1, h.2.1, h.2.2⟩
abbrev vaC (x : Va) : List Value := [.int .i64 x.k, .int .i64 x.i, .string x.t]
def flV (L : List Va) : List Value := L.flatMap vaC
theorem flV_len (L : List Va) : (flV L).length = L.length * 3 := by
  induction L with
  | nil => rfl
  | cons a L ih => simp [flV, List.flatMap_cons] at ih ⊢; omega
theorem flV_app (L M : List Va) : flV (L ++ M) = flV L ++ flV M := by simp [flV]
theorem flV_at : ∀ (L : List Va) (j : Nat) (x : Va), L[j]? = some x → (flV L)[j * 3]? = some (.int .i64 x.k) ∧ (flV L)[j * 3 + 1]? = some (.int .i64 x.i) ∧ (flV L)[j * 3 + 2]? = some (.string x.t)
  | [], j, x, h => by simp at h
  | y :: L, 0, x, h => by obtain rfl : y = x := by simpa using h
                          exact ⟨rfl, rfl, rfl⟩
  | y :: L, j + 1, x, h => by
    have ih := flV_at L j x (by simpa using h)
    have e : flV (y :: L) = vaC y ++ flV L := by simp [flV]
    rw [e, show (j + 1) * 3 = 3 + j * 3 by omega]
    refine ⟨?_, ?_, ?_⟩
    · rw [List.getElem?_append_right (by simp)]; simpa using ih.1
    · rw [List.getElem?_append_right (by simp; omega)]; simp only [List.length_cons, List.length_nil]; rw [show 3 + j * 3 + 1 - (0 + 1 + 1 + 1) = j * 3 + 1 by omega]; exact ih.2.1
    · rw [List.getElem?_append_right (by simp; omega)]; simp only [List.length_cons, List.length_nil]; rw [show 3 + j * 3 + 2 - (0 + 1 + 1 + 1) = j * 3 + 2 by omega]; exact ih.2.2
/-- A list of values of one's own. -/
def RowW (w : World) (B : Nat) (v : Value) (L : List Va) : Prop := w.ownsRow B 30 3 v L.length (flV L)
theorem owns_keep {w w' : World} {B : Nat} {e : TypeId} {z : Nat} {v : Value} {n : Nat} {xs : List Value} (h : w.ownsRow B e z v n xs) (hb : ∀ k, v.ownBlock = some k → w'.heap[k]? = w.heap[k]?) : w'.ownsRow B e z v n xs := by
  refine ⟨h.1, ?_⟩
  rcases h.2 with h2 | ⟨g, cap, cur, rfl, h1, h2, h3⟩
  · exact .inl h2
  · exact .inr ⟨g, cap, cur, rfl, h1, (hb g rfl).trans h2, h3⟩
theorem owns_lt {w : World} {B : Nat} {e : TypeId} {z : Nat} {v : Value} {n : Nat} {xs : List Value} (h : w.ownsRow B e z v n xs) : ∀ k, v.ownBlock = some k → B ≤ k ∧ k < w.heap.size := by
  intro k hk
  rcases h.2 with ⟨rfl, _⟩ | ⟨g, cap, cur, rfl, h1, h2, h3⟩
  · cases hk
  · cases hk
    exact ⟨h1, (Array.getElem?_eq_some_iff.1 h2).1⟩
theorem RowW.keep {w w' : World} {B : Nat} {v : Value} {L : List Va} (h : RowW w B v L) (hb : Below w.heap.size w w') : RowW w' B v L := owns_keep h (fun k hk => hb.block k (owns_lt h k hk).2)
theorem RowW.nil (w : World) (B : Nat) : RowW w B (.slice none 0 0) [] := ⟨rfl, .inl ⟨rfl, rfl⟩⟩
theorem RowW.shape {w : World} {B : Nat} {v : Value} {L : List Va} (h : RowW w B v L) : ∃ a cap, v = .slice a L.length cap := by
  rcases h.2 with ⟨rfl, h2⟩ | ⟨g, cap, cur, rfl, _⟩
  · exact ⟨none, 0, by rw [h2]⟩
  · exact ⟨_, cap, rfl⟩
theorem RowW.shapeN {w : World} {B : Nat} {v : Value} {L : List Va} (h : RowW w B v L) : ∃ a n cap, v = .slice a n cap ∧ n = L.length := by
  obtain ⟨a, cap, h⟩ := h.shape
  exact ⟨a, _, cap, h, rfl⟩
theorem RowW.vals {w : World} {B : Nat} {a : Option Addr} {n cap : Nat} {L : List Va} (h : RowW w B (.slice a n cap) L) : ValsAt w a L := by
  rcases h.2 with ⟨hv, h2⟩ | ⟨g, cap', cur, hv, _, hr, _, _, _, ht⟩
  · exact .inl (List.eq_nil_of_length_eq_zero h2)
  · simp only [Value.slice.injEq] at hv
    obtain ⟨rfl, _, _⟩ := hv
    refine .inr ⟨g, 0, rfl, fun j x hx => ?_⟩
    obtain ⟨c0, c1, c2⟩ := flV_at L j x hx
    have hcell : ∀ (o : Nat) (u : Value), (flV L)[o]? = some u → w.cell? ⟨g, o, none⟩ = some u := fun o u hu => by
      rw [cell_of_row w g o cur _ (0, 0) hr, ← Array.getElem?_toList]
      rw [← ht, List.getElem?_take] at hu
      split at hu
      · exact hu
      · cases hu
    rw [Nat.zero_add]
    exact ⟨hcell _ _ c0, hcell _ _ c1, hcell _ _ c2⟩
section
variable {w : World} {ops : Array Oper} {rest : List Oper} {o : Oper} {a : Act} {Q : Exit → Act → World → Prop} {B X : Nat} {v : Value} {L : List Va}
theorem run_appV (ty : TypeId) (hown : RowW w B v L) (x : Va) (hc : w.rangeAt X 0 (vaC x)) (hl : L.length < 1000000) (hB : B ≤ w.heap.size) :
    ∃ v' w', (Builtin.append_ #[22, 22] ty #[v, .slice (some ⟨X, 0, none⟩) 1 1]).run Tryz.prog w = .ok v' w' ∧ RowW w' B v' (L ++ [x]) ∧ w.grownBy w' v.ownBlock ∧ (v'.ownBlock = v.ownBlock ∨ v'.ownBlock = some w.heap.size) := by
  obtain ⟨i0, hi, hz0, hz1, hz2⟩ := info_parts info_va
  obtain ⟨v', w', h1, h2, h3, _, h4⟩ := run_append_own_at (P := Tryz.prog) w B 22 ty 30 i0 (.agg #[.int .i64 0, .int .i64 0, .string no]) 3 32 Tryz.underlying22 hi hz0 hz1 hz2 rfl (by decide) v L.length (flV L) hown
    ⟨X, 0, none⟩ 1 1 (vaC x) rfl (fun j u hj => by rw [Addr.add_mid, Nat.zero_add]; have := hc j u hj; rwa [Nat.zero_add] at this) (fun u hu => by simp at hu; rcases hu with rfl | rfl | rfl <;> rfl) (by unfold maxLen; omega) (by omega) hB
  exact ⟨v', w', h1, by unfold RowW; rw [flV_app, List.length_append]; simpa [flV] using h2, h3, h4⟩
theorem wpList_appV (hg : o.guard = none) (s y : Operand) (hop : o.op = Op.call { callee := Callee.builtin Builtin.append, args := #[s, y], argTypes := #[22, 22] })
    (hs : a.eval s = v) (hx : a.eval y = .slice (some ⟨X, 0, none⟩) 1 1) (hown : RowW w B v L) (x : Va) (hc : w.rangeAt X 0 (vaC x)) (hl : L.length < 1000000) (hB : B ≤ w.heap.size)
    (hK : ∀ v' w', RowW w' B v' (L ++ [x]) → w.grownBy w' v.ownBlock → wpList Tryz.prog ops Q rest (a.put o.dst v') w') : wpList Tryz.prog ops Q (o :: rest) a w := by
  refine wpList_plain hg fun K' hK' => ?_
  obtain ⟨v', w', hrun, r1, r2, r3⟩ := run_appV o.type hown x hc hl hB
  unfold Oper.wp
  simp [execOp, hop, resolve, invoke, builtin, hs, hx, hrun, Result.andThen]
  exact hK' _ _ (hK v' w' r1 r2)
end
theorem grown_below {w0 w w' : World} {v : Value} {L : List Va} (h : RowW w w0.heap.size v L) (hb : Below w0.heap.size w0 w) (hg : w.grownBy w' v.ownBlock) : Below w0.heap.size w0 w' :=
  ⟨hg.os.trans hb.os, hg.tape.trans hb.tape, hg.output.trans hb.output, Nat.le_trans hb.size hg.size, fun k hk => (hg.block k (Nat.lt_of_lt_of_le hk hb.size) (fun e => by have := (owns_lt h k e.symm).1; omega)).trans (hb.block k hk)⟩
end Go.Proofs.YtgnmkhjilecdhaaGreatDoor
