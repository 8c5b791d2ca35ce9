/- Package fold's sorting: numbers are gathered, and sorted at the end: its closures. Proved of the Go text. -/
import Derived.Test.YtchphbclaapfhaaGreatDoorCnt15
import Derived.Test.YtchphbclaapfhaaGreatDoorRunM15
import Derived.Test.YtchphbclaapfhaaGreatDoorShelfS
import Derived.Sort.OwnSortedInts
namespace Go.Proofs.YtchphbclaapfhaaGreatDoor
open Go.RowKit Go.Sort
open T9 (Blk Chg)
set_option linter.unusedVariables false

/-- What is done with a number, in states of a class. -/
structure TakQ {σ : Type} (R : σ → Prop) (S : σ → (Nat → Prop) → World → Prop) (tk : σ → Int → Stp × σ) (n : Nat) (caps : Array Value) : Prop where
  call : ∀ s m x w, S s m w → R s → -9223372036854775808 ≤ x → x ≤ 9223372036854775807 → Calls Tryz.prog n (#[.int .i64 x] ++ caps) w fun e w' => e = .returned (stV (tk s x).1) ∧ ∃ m', S (tk s x).2 m' w' ∧ Grw m m' w ∧ Chg m w w'
  ent : ∀ args w, (callFunc n args).run Tryz.prog w = .ok (.enter n args) w
set_option maxHeartbeats 2000000 in
set_option maxRecDepth 100000 in
theorem ofn_doesQ {σ : Type} {S : σ → (Nat → Prop) → World → Prop} (hS : Stay S) (R : σ → Prop) (tk : σ → Int → Stp × σ) (nT : Nat) (capsT : Array Value) (HT : TakQ R S tk nT capsT) (Bk : Nat) (hbk : ∀ s m w, S s m w → Blk w Bk #[.func (.func nT) #[] capsT] 88) (hnb : ∀ s x, (tk s x).1 ≠ .bes) : DoesQ (fun s _ => R s) S (celN tk) 147 #[.pointer (some ⟨Bk, 0, none⟩)] := by
  refine ⟨?_, ent_of Tryz.func147 (by kernel_rfl) (by kernel_rfl)⟩
  intro s m x w hs hx hR
  obtain ⟨k, i, t⟩ := x
  have hent := HT.ent
  have hk := hide (hbk s m w hs)
  have K1 := hide (step (step (Below.refl w.heap.size w) (vO k i t)) (stO false false 0 0 no))
  have X1 : Hid (Blk ((w.alloc (vO k i t)).alloc (stO false false 0 0 no)) (w.heap.size + 1) #[.bool false, .bool false, .int .i64 0, .int .i64 0, .string no] 79) := hide (T9.Blk.new1 w (vO k i t) _ _)
  have hsz : Hid (w.heap.size + 1 < ((w.alloc (vO k i t)).alloc (stO false false 0 0 no)).heap.size) := hide (by simp)
  have bk : ((w.alloc (vO k i t)).alloc (stO false false 0 0 no)).cell? ⟨Bk, 0, none⟩ = some (.func (.func nT) #[] capsT) := ((hk.out.alloc _).alloc _).at' 0
  have hi := hx.2
  have HC := hide (HT.call s m i _ (sm_of hS hs K1.out) hR hi.1 hi.2)
  replace hS := hide hS
  replace hs := hide hs
  clear hbk HT hi hx
  by_cases k1 : k = 1
  · subst k1
    have he : celN tk s ⟨1, i, t⟩ = tk s i := if_pos rfl
    rw [he]
    have hb := hnb s i
    generalize tk s i = p at *
    obtain ⟨p1, s2⟩ := p
    cases p1 with
    | bes => exact absurd rfl hb
    | on =>
      go_enter Tryz.func147, Tryz.ntmps147
      go_wp2_with fail
      refine HC.out.mono ?_
      rintro e w2 ⟨rfl, hg⟩
      replace hg := hide hg
      simp only [stV]
      have hX2 := hide (zero5 X1.out (blk_low hS.out hs.out (Nat.le_succ _)) hg.out)
      have z0 : w2.cell? ⟨w.heap.size + 1, 0, none⟩ = some (.bool false) := hX2.out.at' 0
      have z1 : w2.cell? ⟨w.heap.size + 1, 1, none⟩ = some (.bool false) := hX2.out.at' 1
      have z2 : w2.cell? ⟨w.heap.size + 1, 2, none⟩ = some (.int .i64 0) := hX2.out.at' 2
      have z3 : w2.cell? ⟨w.heap.size + 1, 3, none⟩ = some (.int .i64 0) := hX2.out.at' 3
      have z4 : w2.cell? ⟨w.heap.size + 1, 4, none⟩ = some (.string no) := hX2.out.at' 4
      have zf := hX2.out.fr
      have h3 := blk5 hX2.out (.bool false) (.bool false) (.int .i64 0) (.int .i64 0) (.string no)
      have c3 := hide (chg5 w2 (w.heap.size + 1) (.bool false) (.bool false) (.int .i64 0) (.int .i64 0) (.string no))
      obtain ⟨w9, hw9⟩ : ∃ w9, put5 w2 (w.heap.size + 1) (.bool false) (.bool false) (.int .i64 0) (.int .i64 0) (.string no) = w9 := ⟨_, rfl⟩
      rw [hw9] at h3 c3
      unfold put5 at hw9
      have y0 : w9.cell? ⟨w.heap.size + 1, 0, none⟩ = some (.bool false) := h3.at' 0
      have y1 : w9.cell? ⟨w.heap.size + 1, 1, none⟩ = some (.bool false) := h3.at' 1
      have y2 : w9.cell? ⟨w.heap.size + 1, 2, none⟩ = some (.int .i64 0) := h3.at' 2
      have y3 : w9.cell? ⟨w.heap.size + 1, 3, none⟩ = some (.int .i64 0) := h3.at' 3
      have y4 : w9.cell? ⟨w.heap.size + 1, 4, none⟩ = some (.string no) := h3.at' 4
      replace h3 := hide h3
      go_wp2_with fail
      refine bodyPost_ret (by simp [results, Tryz.results147, go_sem, y0, y1, y2, y3, y4]; try rfl) rfl ?_
      exact ⟨rfl, end5 hS.out (Nat.le_succ _) (mid5 hS.out hs.out K1.out (Nat.le_succ _) hsz.out hg.out) c3.out⟩
    | ends y =>
      obtain ⟨y0', y1', y2'⟩ := y
      go_enter Tryz.func147, Tryz.ntmps147
      go_wp2_with fail
      refine HC.out.mono ?_
      rintro e w2 ⟨rfl, hg⟩
      replace hg := hide hg
      simp only [stV]
      have hX2 := hide (zero5 X1.out (blk_low hS.out hs.out (Nat.le_succ _)) hg.out)
      have z0 : w2.cell? ⟨w.heap.size + 1, 0, none⟩ = some (.bool false) := hX2.out.at' 0
      have z1 : w2.cell? ⟨w.heap.size + 1, 1, none⟩ = some (.bool false) := hX2.out.at' 1
      have z2 : w2.cell? ⟨w.heap.size + 1, 2, none⟩ = some (.int .i64 0) := hX2.out.at' 2
      have z3 : w2.cell? ⟨w.heap.size + 1, 3, none⟩ = some (.int .i64 0) := hX2.out.at' 3
      have z4 : w2.cell? ⟨w.heap.size + 1, 4, none⟩ = some (.string no) := hX2.out.at' 4
      have zf := hX2.out.fr
      have h3 := blk5 hX2.out (.bool false) (.bool true) (.int .i64 y0') (.int .i64 y1') (.string y2')
      have c3 := hide (chg5 w2 (w.heap.size + 1) (.bool false) (.bool true) (.int .i64 y0') (.int .i64 y1') (.string y2'))
      obtain ⟨w9, hw9⟩ : ∃ w9, put5 w2 (w.heap.size + 1) (.bool false) (.bool true) (.int .i64 y0') (.int .i64 y1') (.string y2') = w9 := ⟨_, rfl⟩
      rw [hw9] at h3 c3
      unfold put5 at hw9
      have y0 : w9.cell? ⟨w.heap.size + 1, 0, none⟩ = some (.bool false) := h3.at' 0
      have y1 : w9.cell? ⟨w.heap.size + 1, 1, none⟩ = some (.bool true) := h3.at' 1
      have y2 : w9.cell? ⟨w.heap.size + 1, 2, none⟩ = some (.int .i64 y0') := h3.at' 2
      have y3 : w9.cell? ⟨w.heap.size + 1, 3, none⟩ = some (.int .i64 y1') := h3.at' 3
      have y4 : w9.cell? ⟨w.heap.size + 1, 4, none⟩ = some (.string y2') := h3.at' 4
      replace h3 := hide h3
      go_wp2_with fail
      refine bodyPost_ret (by simp [results, Tryz.results147, go_sem, y0, y1, y2, y3, y4]; try rfl) rfl ?_
      exact ⟨rfl, end5 hS.out (Nat.le_succ _) (mid5 hS.out hs.out K1.out (Nat.le_succ _) hsz.out hg.out) c3.out⟩
  · have q1 : (k == 1) = false := by simp [k1]
    clear HC bk
    by_cases k4 : k = 4
    · subst k4
      have he : celN tk s ⟨4, i, t⟩ = (.ends ⟨4, i, t⟩, s) := by unfold celN; rw [if_neg (show ¬ (4 : Int) = 1 by decide), if_pos rfl]
      rw [he]
      clear k1
      have HE := endWith_is 4 i t
      go_enter Tryz.func147, Tryz.ntmps147
      go_wp2_with fail
      refine (HE.out _).mono ?_
      rintro e w2 ⟨rfl, hb2⟩
      have K2 := hide (next K1.out hb2)
      have hX2 := hide (X1.out.keep hb2)
      have z0 : w2.cell? ⟨w.heap.size + 1, 0, none⟩ = some (.bool false) := hX2.out.at' 0
      have z1 : w2.cell? ⟨w.heap.size + 1, 1, none⟩ = some (.bool false) := hX2.out.at' 1
      have z2 : w2.cell? ⟨w.heap.size + 1, 2, none⟩ = some (.int .i64 0) := hX2.out.at' 2
      have z3 : w2.cell? ⟨w.heap.size + 1, 3, none⟩ = some (.int .i64 0) := hX2.out.at' 3
      have z4 : w2.cell? ⟨w.heap.size + 1, 4, none⟩ = some (.string no) := hX2.out.at' 4
      have zf := hX2.out.fr
      have h3 := blk5 hX2.out (.bool false) (.bool true) (.int .i64 4) (.int .i64 i) (.string t)
      have c3 := hide (chg5 w2 (w.heap.size + 1) (.bool false) (.bool true) (.int .i64 4) (.int .i64 i) (.string t))
      obtain ⟨w9, hw9⟩ : ∃ w9, put5 w2 (w.heap.size + 1) (.bool false) (.bool true) (.int .i64 4) (.int .i64 i) (.string t) = w9 := ⟨_, rfl⟩
      rw [hw9] at h3 c3
      unfold put5 at hw9
      have y0 : w9.cell? ⟨w.heap.size + 1, 0, none⟩ = some (.bool false) := h3.at' 0
      have y1 : w9.cell? ⟨w.heap.size + 1, 1, none⟩ = some (.bool true) := h3.at' 1
      have y2 : w9.cell? ⟨w.heap.size + 1, 2, none⟩ = some (.int .i64 4) := h3.at' 2
      have y3 : w9.cell? ⟨w.heap.size + 1, 3, none⟩ = some (.int .i64 i) := h3.at' 3
      have y4 : w9.cell? ⟨w.heap.size + 1, 4, none⟩ = some (.string t) := h3.at' 4
      replace h3 := hide h3
      go_wp2_with fail
      refine bodyPost_ret (by simp [results, Tryz.results147, go_sem, y0, y1, y2, y3, y4]; try rfl) rfl ?_
      exact ⟨rfl, end5 hS.out (Nat.le_succ _) (bel5 hS.out hs.out K2.out (Nat.le_succ _)) c3.out⟩
    · have q4 : (k == 4) = false := by simp [k4]
      have he : celN tk s ⟨k, i, t⟩ = (.on, s) := by unfold celN; rw [if_neg k1, if_neg k4]
      rw [he]
      clear k1 k4
      go_enter Tryz.func147, Tryz.ntmps147
      go_wp2_with fail
      refine bodyPost_ret (by simp [results, Tryz.results147, go_sem]; try rfl) rfl ?_
      exact ⟨rfl, m, sm_of hS.out hs.out K1.out, Grw.refl _ _, Chg.of_below K1.out⟩
/-- A list of numbers of one's own. -/
def RowI (w : World) (v : Value) (L : List Int) : Prop := w.ownsRow 0 2 1 v L.length (L.map (Value.int .i64))
theorem RowI.keep {w w' : World} {v : Value} {L : List Int} (h : RowI w v L) (hb : Below w.heap.size w w') : RowI w' v L := owns_keep h (fun k hk => hb.block k (owns_lt h k hk).2)
theorem RowI.chg {w w' : World} {v : Value} {L : List Int} (h : RowI w v L) {M : Nat → Prop} (hc : Chg M w w') (hn : ∀ k, v.ownBlock = some k → ¬ M k) : RowI w' v L := owns_keep h (fun k hk => hc.block k (owns_lt h k hk).2 (hn k hk))
theorem RowI.nil (w : World) : RowI w (.slice none 0 0) [] := ⟨rfl, .inl ⟨rfl, rfl⟩⟩
theorem RowI.shapeN {w : World} {v : Value} {L : List Int} (h : RowI w v L) : ∃ a n cap, v = .slice a n cap ∧ n = L.length := by
  rcases h.2 with ⟨rfl, h2⟩ | ⟨g, cap, cur, rfl, _⟩
  · exact ⟨none, 0, 0, rfl, h2.symm⟩
  · exact ⟨_, _, cap, rfl, rfl⟩
theorem info_i64 : (Tryz.prog.info? 2).map (fun i => (i.zero, i.size, i.bytes)) = some (some (.int .i64 0), 1, 8) := by kernel_rfl
theorem wpList_appI {w : World} {ops : Array Oper} {rest : List Oper} {o : Oper} {a : Act} {Q : Exit → Act → World → Prop} {X : Nat} {v : Value} {L : List Int} (hg : o.guard = none) (s y : Operand) (hop : o.op = Op.call { callee := Callee.builtin Builtin.append, args := #[s, y], argTypes := #[22, 22] })
    (hs : a.eval s = v) (hx : a.eval y = .slice (some ⟨X, 0, none⟩) 1 1) (hown : RowI w v L) (p : Int) (hc : w.cell? ⟨X, 0, none⟩ = some (.int .i64 p)) (hl : L.length < 1000000)
    (hK : ∀ v' w', RowI w' v' (L ++ [p]) → w.grownBy w' v.ownBlock → (v'.ownBlock = v.ownBlock ∨ v'.ownBlock = some w.heap.size) → wpList Tryz.prog ops Q rest (a.put o.dst v') w') : wpList Tryz.prog ops Q (o :: rest) a w := by
  obtain ⟨i0, hi, hz0, hz1, hz2⟩ := info_parts info_i64
  refine wpList_append_own_at _ hg s y 22 hop 0 2 i0 _ 1 8 Tryz.underlying22 hi hz0 hz1 hz2 rfl (by decide) v L.length (L.map (Value.int .i64)) hs hown ⟨X, 0, none⟩ 1 1 [.int .i64 p] hx rfl (fun j u hj => by
    match j, hj with
    | 0, hj => obtain rfl : Value.int .i64 p = u := by simpa using hj
               rw [Addr.add_mid]; exact hc) (fun u hu => by simp at hu; rcases hu with rfl; rfl) (by unfold maxLen; omega) (by omega) (Nat.zero_le _) ?_
  intro v' w' h1 h2 _ h4
  exact hK v' w' (by unfold RowI; rw [List.length_append, List.map_append]; simpa using h1) h2 h4
/-- Where sorting's variables lie, and those of what is told at the end. -/
def SrtS (mt : Nat → Prop) (TW : World → Prop) (nT : Nat) (cT : Array Value) (Bt Ba Bk Bl : Nat) (L : List Int) (m : Nat → Prop) (w : World) : Prop :=
  ∃ v, Blk w Ba #[v] 22 ∧ Blk w Bt #[.func (.func nT) #[] cT] 101 ∧ Blk w Bk #[.func (.func 126) #[] #[.pointer (some ⟨Ba, 0, none⟩)]] 88 ∧ Blk w Bl #[.func (.func 126) #[] #[.pointer (some ⟨Ba, 0, none⟩)]] 88 ∧ RowI w v L ∧ TW w ∧ m = (fun k => k = Ba ∨ k = Bt ∨ k = Bk ∨ k = Bl ∨ mt k ∨ v.ownBlock = some k) ∧ (Ba ≠ Bt ∧ Ba ≠ Bk ∧ Ba ≠ Bl ∧ ¬ mt Ba) ∧ (∀ k, v.ownBlock = some k → k ≠ Ba ∧ k ≠ Bt ∧ k ≠ Bk ∧ k ≠ Bl ∧ ¬ mt k) ∧ L.length < 4611686018427387904 ∧ ∀ y ∈ L, -9223372036854775808 ≤ y ∧ y ≤ 9223372036854775807
theorem srt_stay (mt : Nat → Prop) (TW : World → Prop) (nT : Nat) (cT : Array Value) (Bt Ba Bk Bl : Nat) (hk : KeepK mt TW) : Stay (SrtS mt TW nT cT Bt Ba Bk Bl) := by
  constructor
  · intro L m w ⟨v, h1, h2, h3, h4, h5, h6, h7, _⟩ k hk'
    rw [h7] at hk'
    rcases hk' with rfl | rfl | rfl | rfl | h | h
    · exact h1.lt
    · exact h2.lt
    · exact h3.lt
    · exact h4.lt
    · exact hk.lt h6 k h
    · exact (owns_lt h5 k h).2
  · intro L m w w' ⟨v, h1, h2, h3, h4, h5, h6, h7, h8⟩ hb
    subst h7
    exact ⟨v, (hb _ (.inl rfl)).trans h1, (hb _ (.inr (.inl rfl))).trans h2, (hb _ (.inr (.inr (.inl rfl)))).trans h3, (hb _ (.inr (.inr (.inr (.inl rfl))))).trans h4, owns_keep h5 (fun k h => hb k (.inr (.inr (.inr (.inr (.inr h)))))), hk.same h6 (fun k h => hb k (.inr (.inr (.inr (.inr (.inl h)))))), rfl, h8⟩
def srtT (L : List Int) (x : Int) : Stp × List Int := (.on, L ++ [x])
theorem bnd_app {L : List Int} {x : Int} (h : ∀ y ∈ L, -9223372036854775808 ≤ y ∧ y ≤ 9223372036854775807) (h1 : -9223372036854775808 ≤ x) (h2 : x ≤ 9223372036854775807) : ∀ y ∈ L ++ [x], -9223372036854775808 ≤ y ∧ y ≤ 9223372036854775807 := by
  intro y hy
  rcases List.mem_append.1 hy with k | k
  · exact h y k
  · rw [List.mem_singleton.1 k]; exact ⟨h1, h2⟩
/-- What is left behind a number that is gathered. -/
theorem srt_mid {mt : Nat → Prop} {TW : World → Prop} {nT : Nat} {cT : Array Value} {Bt Ba Bk Bl : Nat} (hk : KeepK mt TW) {L : List Int} {x : Int} {v v' : Value} {w w1 w2 w3 : World} {X : Nat} {m : Nat → Prop} (h1 : Blk w Ba #[v] 22) (h2 : Blk w Bt #[.func (.func nT) #[] cT] 101) (h3 : Blk w Bk #[.func (.func 126) #[] #[.pointer (some ⟨Ba, 0, none⟩)]] 88) (h4 : Blk w Bl #[.func (.func 126) #[] #[.pointer (some ⟨Ba, 0, none⟩)]] 88) (h6 : TW w) (h7 : m = (fun k => k = Ba ∨ k = Bt ∨ k = Bk ∨ k = Bl ∨ mt k ∨ v.ownBlock = some k)) (h8 : Ba ≠ Bt ∧ Ba ≠ Bk ∧ Ba ≠ Bl ∧ ¬ mt Ba) (h9 : ∀ k, v.ownBlock = some k → k ≠ Ba ∧ k ≠ Bt ∧ k ≠ Bk ∧ k ≠ Bl ∧ ¬ mt k) (hL : L.length ≤ 1000) (hbd : ∀ y ∈ L, -9223372036854775808 ≤ y ∧ y ≤ 9223372036854775807) (hx1 : -9223372036854775808 ≤ x) (hx2 : x ≤ 9223372036854775807)
    (hb : Below w.heap.size w w1) (hX : w.heap.size ≤ X) (hX1 : X < w1.heap.size) (g1 : RowI w2 v' (L ++ [x])) (g2 : w1.grownBy w2 v.ownBlock) (g3 : v'.ownBlock = v.ownBlock ∨ v'.ownBlock = some w1.heap.size) (hB : Blk w3 Ba #[v'] 22) (hc : Chg (· = Ba) w2 w3) (ho : ∀ k, v.ownBlock = some k → k < w.heap.size) : ∃ m', SrtS mt TW nT cT Bt Ba Bk Bl (L ++ [x]) m' w3 ∧ Grw m m' w ∧ Chg m w w3 ∧ ¬ m' X := by
  have hlt := h1.lt
  have nv : ∀ k, v'.ownBlock = some k → v.ownBlock = some k ∨ k = w1.heap.size := fun k e => by
    rcases g3 with h | h
    · exact .inl (h ▸ e)
    · exact .inr (by rw [h] at e; exact (Option.some.inj e).symm)
  have hs := hb.size
  have stay : ∀ k, k < w.heap.size → k ≠ Ba → v.ownBlock ≠ some k → w3.heap[k]? = w.heap[k]? := fun k h a b => (hc.block k (Nat.lt_of_lt_of_le (Nat.lt_of_lt_of_le h hs) g2.size) a).trans ((g2.block k (Nat.lt_of_lt_of_le h hs) (fun e => b e.symm)).trans (hb.block k h))
  have n9 : ∀ k, (k = Ba ∨ k = Bt ∨ k = Bk ∨ k = Bl ∨ mt k) → v.ownBlock ≠ some k := fun k hk' e => by
    have := h9 k e
    rcases hk' with h | h | h | h | h
    · exact this.1 h
    · exact this.2.1 h
    · exact this.2.2.1 h
    · exact this.2.2.2.1 h
    · exact this.2.2.2.2 h
  refine ⟨_, ⟨v', hB, (stay _ h2.lt (Ne.symm h8.1) (n9 _ (.inr (.inl rfl)))).trans h2, (stay _ h3.lt (Ne.symm h8.2.1) (n9 _ (.inr (.inr (.inl rfl))))).trans h3, (stay _ h4.lt (Ne.symm h8.2.2.1) (n9 _ (.inr (.inr (.inr (.inl rfl)))))).trans h4, g1.chg hc (fun k e h => ?_), hk.same h6 (fun k h => stay k (hk.lt h6 k h) (fun e => h8.2.2.2 (e ▸ h)) (n9 k (.inr (.inr (.inr (.inr h)))))), rfl, h8, fun k e => ?_, by rw [List.length_append]; simp; omega, bnd_app hbd hx1 hx2⟩, fun k hk' => ?_, ?_, fun e => ?_⟩
  · rcases nv k e with h' | h'
    · exact (h9 k h').1 h
    · omega
  · rcases nv k e with h' | h'
    · exact h9 k h'
    · have a1 := h2.lt
      have a2 := h3.lt
      have a3 := h4.lt
      refine ⟨by omega, by omega, by omega, by omega, fun hm => ?_⟩
      have := hk.lt h6 k hm
      omega
  · rw [h7]
    rcases hk' with h | h | h | h | h | h
    · exact .inl (.inl h)
    · exact .inl (.inr (.inl h))
    · exact .inl (.inr (.inr (.inl h)))
    · exact .inl (.inr (.inr (.inr (.inl h))))
    · exact .inl (.inr (.inr (.inr (.inr (.inl h)))))
    · rcases nv k h with h' | h'
      · exact .inl (.inr (.inr (.inr (.inr (.inr h')))))
      · exact .inr (by omega)
  · refine ⟨hc.os.trans (g2.os.trans hb.os), hc.tape.trans (g2.tape.trans hb.tape), hc.output.trans (g2.output.trans hb.output), Nat.le_trans hs (Nat.le_trans g2.size hc.size), fun k h hn => stay k h (fun e => hn (by rw [h7]; exact .inl e)) (fun e => hn (by rw [h7]; exact .inr (.inr (.inr (.inr (.inr e))))))⟩
  · rcases e with h | h | h | h | h | h
    · omega
    · have := h2.lt; omega
    · have := h3.lt; omega
    · have := h4.lt; omega
    · have := hk.lt h6 X h; omega
    · rcases nv X h with h' | h'
      · have := ho X h'; omega
      · omega
end Go.Proofs.YtchphbclaapfhaaGreatDoor
