/- Law 10's Book: lists of trees in memory, a row of lists of one's own; Room, lists. Proved of the Go text. quadrillelaw10.lists: a tree of one's own: its lists are some of its blocks, each once. Proved of the Go text. Law 10's Book: Full; appends through a pointer, as steps. Proved of the Go text. Law 10's Book: what its lists hold: each its own marks. No Go in sight. -/
import Derived.Test.YtiajoppbgebnpaaRoJ
import Derived.Deep.RegionLaw
import Derived.Test.YtiajoppbgebnpaaLyJ
import Derived.Deep.MidRow
namespace Go.Proofs.Ytiajoppbgebnpaa
open Go.RowKit Go.Sort
set_option linter.unusedVariables false

/-- A list: its block, how long it is, how much room it has. -/
structure Lst where
  g : Nat
  n : Nat
  c : Nat
def slV (x : Lst) : Value := .slice (some ⟨x.g, 0, none⟩) x.n x.c
/-- A row of lists of one's own. -/
abbrev RowS (w : World) (B : Nat) (v : Value) (ls : List Value) : Prop := w.ownsRow B 30 1 v ls.length ls
/-- The list's block, whatever it holds. -/
def LstAt (w : World) (x : Lst) : Prop := 0 < x.c ∧ x.n ≤ x.c ∧ x.c ≤ maxLen ∧ x.n ≤ 2000 ∧ ∃ cells, w.heap[x.g]? = some (.cells cells 37 (0, 0)) ∧ cells.size = x.c * 14
theorem LstAt.same {w w' : World} {x : Lst} (h : LstAt w x) (he : w'.heap[x.g]? = w.heap[x.g]?) : LstAt w' x := by
  obtain ⟨a, b, c, d, cells, h1, h2⟩ := h
  exact ⟨a, b, c, d, cells, he.trans h1, h2⟩
theorem LstAt.lt {w : World} {x : Lst} (h : LstAt w x) : x.g < w.heap.size := by
  obtain ⟨_, _, _, _, cells, h1, _⟩ := h
  exact (Array.getElem?_eq_some_iff.1 h1).1
/-- What is written is the row's own block and what is new. -/
structure Gr (w w' : World) (v v' : Value) : Prop where
  chg : Chg (fun x => v.ownBlock = some x) w w'
  own : v'.ownBlock = v.ownBlock ∨ ∃ x, v'.ownBlock = some x ∧ w.heap.size ≤ x
theorem Gr.refl (w : World) (v : Value) : Gr w w v v := ⟨⟨rfl, rfl, rfl, Nat.le_refl _, fun x hx _ => rfl⟩, .inl rfl⟩
theorem Gr.below {w w' w'' : World} {v v' : Value} (h : Gr w w' v v') (hb : Below w'.heap.size w' w'') : Gr w w'' v v' :=
  ⟨⟨hb.os.trans h.chg.os, hb.tape.trans h.chg.tape, hb.output.trans h.chg.output, Nat.le_trans h.chg.size hb.size, fun x hx hn => (hb.block x (Nat.lt_of_lt_of_le hx h.chg.size)).trans (h.chg.block x hx hn)⟩, h.own⟩
theorem Gr.trans {w w' w'' : World} {v v' v'' : Value} (h : Gr w w' v v') (k : Gr w' w'' v' v'') : Gr w w'' v v'' := by
  refine ⟨⟨k.chg.os.trans h.chg.os, k.chg.tape.trans h.chg.tape, k.chg.output.trans h.chg.output, Nat.le_trans h.chg.size k.chg.size, fun x hx hn => (k.chg.block x (Nat.lt_of_lt_of_le hx h.chg.size) (fun e => ?_)).trans (h.chg.block x hx hn)⟩, ?_⟩
  · rcases h.own with e1 | ⟨y, e1, hy⟩
    · exact hn (e1 ▸ e)
    · rw [e1] at e; cases e; omega
  · rcases k.own with e1 | ⟨y, e1, hy⟩
    · rcases h.own with e2 | ⟨z, e2, hz⟩
      · exact .inl (e1.trans e2)
      · exact .inr ⟨z, e1.trans e2, hz⟩
    · exact .inr ⟨y, e1, Nat.le_trans h.chg.size hy⟩
/-- A block of another kind stays while a row is grown. -/
theorem Gr.stay {w w' : World} {v v' : Value} (h : Gr w w' v v') {x : Nat} (hx : x < w.heap.size) (hn : v.ownBlock ≠ some x) : w'.heap[x]? = w.heap[x]? := h.chg.block x hx hn
theorem owns_kind {w : World} {B e n m : Nat} {v : Value} {xs : List Value} (h : w.ownsRow B e n v m xs) {x : Nat} {cells : Array Value} {t : TypeId} {f : Nat × Nat} (hx : w.heap[x]? = some (.cells cells t f)) (hne : t ≠ e) : v.ownBlock ≠ some x := by
  intro hq
  rcases h.2 with ⟨rfl, _⟩ | ⟨g, cap, cur, rfl, _, hg, _⟩
  · cases hq
  · have : g = x := by simpa [Value.ownBlock] using hq
    subst this
    rw [hg] at hx
    cases hx
    exact hne rfl
theorem info_sl10 : (Try.prog.info? 30).map (fun i => (i.zero, i.size, i.bytes)) = some (some (.slice none 0 0), 1, 24) := by kernel_rfl
section
variable {w : World} {ops : Array Oper} {rest : List Oper} {o : Oper} {a : Act} {Q : Exit → Act → World → Prop} {B X : Nat} {v sv : Value} {ls : List Value}
theorem wpList_appS (hg : o.guard = none) (s y : Operand) (hop : o.op = Op.call { callee := Callee.builtin Builtin.append, args := #[s, y], argTypes := #[25, 25] })
    (hs : a.eval s = v) (hx : a.eval y = .slice (some ⟨X, 0, none⟩) 1 1) (hown : RowS w B v ls) (hc : w.cell? ⟨X, 0, none⟩ = some sv) (h1c : sv.oneCell' = true) (hl : ls.length < 1000000) (hB : B ≤ w.heap.size)
    (hK : ∀ v' w', RowS w' B v' (ls ++ [sv]) → Gr w w' v v' → wpList Try.prog ops Q rest (a.put o.dst v') w') : wpList Try.prog ops Q (o :: rest) a w := by
  obtain ⟨i0, hi, hz0, hz1, hz2⟩ := info_parts info_sl10
  refine wpList_append_own_at (P := Try.prog) w hg s y 25 hop B 30 i0 _ 1 24 Try.underlying25 hi hz0 hz1 hz2 rfl (by decide) v ls.length ls hs hown
    ⟨X, 0, none⟩ 1 1 [sv] hx rfl (fun j u hj => by match j, hj with | 0, hj => (simp at hj; subst hj; simpa [Addr.add] using hc)) (fun u hu => by simp at hu; subst hu; exact h1c) (by unfold maxLen; omega) (by omega) hB ?_
  intro v' w' h1 h2 _ h4
  refine hK v' w' (by unfold RowS; rw [List.length_append]; exact h1) ⟨⟨h2.os, h2.tape, h2.output, h2.size, fun x hx hn => h2.block x hx (fun e => hn e.symm)⟩, ?_⟩
  rcases h4 with e | e
  · exact .inl e
  · exact .inr ⟨_, e, Nat.le_refl _⟩
end
/-- How far a list is grown. -/
def roomN (n all : Nat) : Nat := if n + 70000 < all then n + 70000 else all
theorem room_any (n all : Nat) (hn : n ≤ 1000000000) (ha : all ≤ maxLen) : CallIs 24 #[.int .i64 n, .int .i64 all] (.int .i64 (roomN n all : Nat)) := by
  refine hide fun w => ?_
  have h1 : (n : Int) + 70000 ≤ 9223372036854775807 := by omega
  unfold roomN
  by_cases h : n + 70000 < all
  · have hi : (n : Int) + 70000 < all := by omega
    rw [if_pos h]
    go_enter Try.func24, Try.ntmps24
    go_wp2_with fail
    go_ret
    exact ⟨by first | rfl | (congr 2; push_cast; rfl), by go_grown⟩
  · have hi : ¬ (n : Int) + 70000 < all := by omega
    rw [if_neg h]
    go_enter Try.func24, Try.ntmps24
    go_wp2_with fail
    go_ret
    exact ⟨rfl, by go_grown⟩
end Go.Proofs.Ytiajoppbgebnpaa
namespace Go.Proofs.Ytiajoppbgebnpaa
open Go.RowKit Go.Sort
set_option linter.unusedVariables false

mutual
theorem Ow.cells {w : World} : ∀ (t : Ex) {v : Value} {bs : List Nat}, Ow w v t bs → ∀ x ∈ bs, ∃ cells, w.heap[x]? = some (.cells cells 37 (0, 0))
  | .mk nd ks, v, bs, h, x, hx => by
    unfold Ow at h
    obtain ⟨a, len, cap, _, _, h⟩ := h
    rcases h with ⟨_, _, _, rfl⟩ | ⟨b, cells, bs', _, rfl, hc, _, _, hk⟩
    · cases hx
    · rcases List.mem_cons.1 hx with rfl | hx
      · exact ⟨cells, hc⟩
      · exact OwL.cells ks hk x hx
theorem OwL.cells {w : World} {b : Nat} : ∀ (ks : List Ex) {o : Nat} {bs : List Nat}, OwL w b o ks bs → ∀ x ∈ bs, ∃ cells, w.heap[x]? = some (.cells cells 37 (0, 0))
  | [], o, bs, h, x, hx => by
    unfold OwL at h
    subst h
    cases hx
  | k :: r, o, bs, h, x, hx => by
    unfold OwL at h
    obtain ⟨cs, b1, b2, rfl, h1, _, h3⟩ := h
    rcases List.mem_append.1 hx with hx | hx
    · exact Ow.cells k h1 x hx
    · exact OwL.cells r h3 x hx
end
def nodesL9 : List Ex → Nat
  | [] => 0
  | k :: r => nodesE k + nodesL9 r
/-- What lists answers. -/
def LsP (w : World) (B : Nat) (vl : Value) (L : List Value) (bs : List Nat) (n : Nat) (e : Ending) (w' : World) : Prop :=
  ∃ (a : Option Addr) (n' c : Nat) (xs : List Lst), e = .returned (.slice a n' c) ∧ RowS w' B (.slice a n' c) (L ++ xs.map slV) ∧ Gr w w' vl (.slice a n' c) ∧ (xs.map Lst.g).Sublist bs ∧ (∀ x ∈ xs, LstAt w x) ∧ xs.length ≤ n
abbrev ListsIs (t : Ex) : Prop := ∀ (v vl : Value) (w : World) (bs : List Nat) (L : List Value) (B : Nat), Ow w v t bs → RowS w B vl L → B ≤ w.heap.size → nodesE t ≤ 2000 → L.length + nodesE t ≤ 900000 →
  Calls Try.prog 22 #[v, vl] w fun e w' => LsP w B vl L bs (nodesE t) e w'
/-- Where the loop stands. -/
structure LsS (w wr : World) (B b : Nat) (vl v : Value) (L : List Value) (ks : List Ex) (k : Nat) (xs : List Lst) (bs b1 b2 : List Nat) (n : Nat) : Prop where
  row : RowS wr B v (L ++ xs.map slV)
  gr : Gr w wr vl v
  cut : bs = b1 ++ b2
  sub : (xs.map Lst.g).Sublist b1
  at' : ∀ x ∈ xs, LstAt w x
  kid : OwL w b (k * 14) (ks.drop k) b2
  len : xs.length + nodesL9 (ks.drop k) ≤ n
theorem nodesL_is (nd : Nd) (ks : List Ex) : nodesE (.mk nd ks) = 1 + nodesL9 ks := by
  have : ∀ l : List Ex, nodesL l = nodesL9 l := by
    intro l
    induction l with
    | nil => rfl
    | cons k r ih => rw [nodesL, nodesL9, ih]
  rw [nodesE, this]
/-- What the row's growth leaves of a tree. -/
theorem ow_stay {w wr : World} {B : Nat} {vl v : Value} {L : List Value} {bs : List Nat} (hr : RowS w B vl L) (hg : Gr w wr vl v) (hc : ∀ x ∈ bs, ∃ cells, w.heap[x]? = some (.cells cells 37 (0, 0))) : ∀ x ∈ bs, wr.heap[x]? = w.heap[x]? := fun x hx => by
  obtain ⟨cells, h⟩ := hc x hx
  exact hg.stay (Array.getElem?_eq_some_iff.1 h).1 (owns_kind hr h (by decide))
theorem row_slv' {w : World} {B : Nat} {v : Value} {ls : List Value} (h : RowS w B v ls) : ∃ a n c, v = .slice a n c := by
  rcases h.2 with ⟨rfl, h0⟩ | ⟨g, cap, cur, rfl, _⟩
  · exact ⟨none, 0, 0, rfl⟩
  · exact ⟨_, _, _, rfl⟩
theorem row_slv {w : World} {B : Nat} {v : Value} {ls : List Value} (h : RowS w B v ls) : ∃ a c, v = .slice a ls.length c := by
  rcases h.2 with ⟨rfl, h0⟩ | ⟨g, cap, cur, rfl, _⟩
  · exact ⟨none, 0, by rw [h0]⟩
  · exact ⟨_, _, rfl⟩
theorem LsS.step {w wr w' : World} {B b : Nat} {vl v : Value} {L : List Value} {ks : List Ex} {k : Nat} {xs : List Lst} {bs b1 b2 : List Nat} {n : Nat} {e : Ending} (h : LsS w wr B b vl v L ks k xs bs b1 b2 n) (hr : RowS w B vl L) (hc : ∀ x ∈ bs, ∃ cells, w.heap[x]? = some (.cells cells 37 (0, 0)))
    (hk : k < ks.length) {c1 c2 : List Nat} (hb : b2 = c1 ++ c2) (hd : OwL w b (k * 14 + 14) (ks.drop (k + 1)) c2) (hp : LsP wr B v (L ++ xs.map slV) c1 (nodesE ks[k]) e w') :
    ∃ (a : Option Addr) (len c : Nat) (ys : List Lst) (d1 : List Nat), e = .returned (.slice a len c) ∧ LsS w w' B b vl (.slice a len c) L ks (k + 1) ys bs d1 c2 n := by
  obtain ⟨a, n', c, ys, rfl, h1, h2, h3, h4, h5⟩ := hp
  subst hb
  have hs := h.cut
  have hst := ow_stay hr h.gr hc
  refine ⟨a, _, c, xs ++ ys, b1 ++ c1, rfl, ⟨?_, ?_, ?_, ?_, ?_, ?_, ?_⟩⟩
  · rw [List.map_append, ← List.append_assoc]; exact h1
  · exact h.gr.trans h2
  · rw [hs, List.append_assoc]
  · rw [List.map_append]; exact h.sub.append h3
  · intro x hx
    rcases List.mem_append.1 hx with hx | hx
    · exact h.at' x hx
    · have hm : x.g ∈ bs := by rw [hs]; exact List.mem_append_right _ (List.mem_append_left _ (h3.subset (List.mem_map_of_mem hx)))
      exact (h4 x hx).same (hst x.g hm).symm
  · rw [show (k + 1) * 14 = k * 14 + 14 by omega]; exact hd
  · have := h.len
    rw [List.drop_eq_getElem_cons hk, nodesL9] at this
    rw [List.length_append]
    omega
theorem LsS.fin {w wr : World} {B b : Nat} {vl v : Value} {L : List Value} {ks : List Ex} {xs : List Lst} {bs b1 b2 : List Nat} {n : Nat} (h : LsS w wr B b vl v L ks ks.length xs bs b1 b2 n) : LsP w B vl L bs n (.returned v) wr := by
  obtain ⟨a, n', c, e⟩ := row_slv' h.row
  subst e
  refine ⟨a, n', c, xs, rfl, h.row, h.gr, ?_, h.at', ?_⟩
  · rw [h.cut]; exact h.sub.trans (List.sublist_append_left _ _)
  · have := h.len; omega
theorem meas_ls {len k : Nat} (h : k < len) : len - (intOf (.int .i64 ((k : Int) + 1))).toNat < len - (intOf (.int .i64 (k : Int))).toNat := by
  show len - ((k : Int) + 1).toNat < len - (k : Int).toNat
  omega
set_option maxHeartbeats 4000000 in
set_option maxRecDepth 100000 in
theorem lists_any : ∀ t, ListsIs t := by
  refine Ex.ind fun nd ks ih => ?_
  intro v vl w bs L B ho hr hB hn hL
  obtain ⟨a, len, cap, rfl, hl, hcase⟩ := ho.un
  have hl' := hide hl
  obtain ⟨av, cv, rfl⟩ := row_slv hr
  have hcl := Ow.cells _ ho
  have hnn := nodesL_is nd ks
  have hle : ks.length ≤ nodesE (.mk nd ks) := by have := len_nodes ks; rw [nodesE]; omega
  have c13 := (at14 nd (.slice a len cap)).c13
  have hb1 := step (Below.refl w.heap.size w) (exO nd (.slice a len cap))
  have hr1 : RowS (w.alloc (exO nd (.slice a len cap))) B (.slice av L.length cv) L := owns_keep hr (fun x hx => hb1.block x (owns_lt hr x hx).2)
  have hg1 : Gr w (w.alloc (exO nd (.slice a len cap))) (.slice av L.length cv) (.slice av L.length cv) := (Gr.refl w _).below hb1
  have P0 := hide (Blk.new w (exC nd (.slice a len cap)) 37)
  have z13 := (P0.out.at' 13).trans c13
  have hRW := hide hr
  have hCL := hide hcl
  have hLn := hide hL
  -- the loop, wherever it starts
  rcases hcase with ⟨rfl, h0, rfl, rfl⟩ | ⟨b, cells, bs', rfl, rfl, hc, hz, ⟨hlc, hcm⟩, hk⟩
  · subst h0
    obtain rfl : ks = [] := List.eq_nil_of_length_eq_zero hl.symm
    have hend : LsP w B (.slice av L.length cv) L [] (nodesE (.mk nd [])) (.returned (.slice av L.length cv)) (w.alloc (exO nd (.slice none 0 0))) := ⟨av, L.length, cv, [], rfl, by simpa using hr1, by simpa using hg1, by simp, (fun x hx => by cases hx), Nat.zero_le _⟩
    replace hend := hide hend
    clear hr1 hg1 hb1 hr hcl ho hRW hCL ih hl hl' hnn hle hn
    go_enter Try.func22, Try.ntmps22
    go_wp2_with fail
    go_loopw [1, 5] (fun l i wr => l = .slice av L.length cv ∧ i = .int .i64 0 ∧ wr = w.alloc (exO nd (.slice none 0 0))) (fun _ i _ => 0)
    case atStart => exact ⟨rfl, rfl, rfl⟩
    case round =>
      obtain ⟨rfl, rfl, rfl⟩ := hrel
      go_wp2_with fail
      go_ret
      exact hend.out
  · have hcm' : cap ≤ 9223372036854775807 := hcm
    have hL1 : L.length < 1000000 := by omega
    have hks : len ≤ 2000 := by omega
    by_cases hc0 : cap = 0
    · subst hc0
      obtain rfl : len = 0 := by omega
      obtain rfl : ks = [] := List.eq_nil_of_length_eq_zero hl.symm
      have hend : LsP w B (.slice av L.length cv) L (b :: bs') (nodesE (.mk nd [])) (.returned (.slice av L.length cv)) (w.alloc (exO nd (.slice (some ⟨b, 0, none⟩) 0 0))) := ⟨av, L.length, cv, [], rfl, by simpa using hr1, by simpa using hg1, by simp, (fun x hx => by cases hx), Nat.zero_le _⟩
      replace hend := hide hend
      clear hr1 hg1 hb1 hr hcl ho hRW hCL ih hc hz hk hl hl' hnn hle hn hlc hks
      go_enter Try.func22, Try.ntmps22
      go_wp2_with fail
      go_loopw [1, 5] (fun l i wr => l = .slice av L.length cv ∧ i = .int .i64 0 ∧ wr = w.alloc (exO nd (.slice (some ⟨b, 0, none⟩) 0 0))) (fun _ i _ => 0)
      case atStart => exact ⟨rfl, rfl, rfl⟩
      case round =>
        obtain ⟨rfl, rfl, rfl⟩ := hrel
        go_wp2_with fail
        go_ret
        exact hend.out
    · have hcp : (0 : Int) < cap := by omega
      have hcat : LstAt w ⟨b, len, cap⟩ := ⟨by show 0 < cap; omega, hlc, hcm, hks, cells, hc, hz⟩
      have hr2 := hide (owns_keep hr1 (w' := (w.alloc (exO nd (.slice (some ⟨b, 0, none⟩) len cap))).alloc (.cells #[.slice (some ⟨b, 0, none⟩) len cap] 30)) (fun x hx => Below.heap_alloc _ _ x (owns_lt hr1 x hx).2))
      have hg2 := hide (hg1.below (step (Below.refl _ _) (.cells #[.slice (some ⟨b, 0, none⟩) len cap] 30)))
      have hB2 := hide (step hb1 (.cells #[.slice (some ⟨b, 0, none⟩) len cap] 30))
      have P1 := hide (P0.out.alloc (.cells #[.slice (some ⟨b, 0, none⟩) len cap] 30))
      have cX : Hid (((w.alloc (exO nd (.slice (some ⟨b, 0, none⟩) len cap))).alloc (.cells #[.slice (some ⟨b, 0, none⟩) len cap] 30)).cell? ⟨w.heap.size + 1, 0, none⟩ = some (.slice (some ⟨b, 0, none⟩) len cap)) := hide (by have := (Blk.new1 w (exO nd (.slice (some ⟨b, 0, none⟩) len cap)) #[.slice (some ⟨b, 0, none⟩) len cap] 30).at' 0; exact this)
      have hBz := hide (Nat.le_trans hB hB2.out.size)
      have hk0 := hide hk
      have hnl := hide hnn
      have hhc := hide hcat
      replace ih := hide ih
      replace hle := hide hle
      replace hn := hide hn
      clear hr1 hg1 hb1 hr hcl ho hc hz hk hnn hl
      go_enter Try.func22, Try.ntmps22
      go_wp2_with (at_builtin; refine wpList_appS (sv := .slice (some ⟨b, 0, none⟩) len cap) rfl _ _ rfl rfl rfl hr2.out cX.out rfl hL1 hBz.out ?_)
      intro v3 w3 r3 g3
      have hst := hide (show LsS w w3 B b (.slice av L.length cv) v3 L ks 0 [⟨b, len, cap⟩] (b :: bs') [b] bs' (nodesE (.mk nd ks)) from ⟨r3, hg2.out.trans g3, rfl, List.Sublist.refl _, (fun x hx => by rw [List.mem_singleton] at hx; subst hx; exact hhc.out), by simpa using hk0.out, by rw [hnl.out]; simp⟩)
      have P3 : Hid (Blk w3 w.heap.size (exC nd (.slice (some ⟨b, 0, none⟩) len cap)) 37) := hide ((g3.stay P1.out.lt (owns_kind hr2.out P1.out (by decide))).trans P1.out)
      obtain ⟨a3, n3, c3, rfl⟩ := row_slv' r3
      clear r3 g3 hr2 hg2 hB2 P1 cX hBz hk0 hhc z13 P0
      go_wp2_with fail
      go_loopw [1, 5] (fun l i wr => ∃ (k : Nat) (al : Option Addr) (ll lc : Nat) (xs : List Lst) (b1 b2 : List Nat), k ≤ len ∧ l = .slice al ll lc ∧ i = .int .i64 k ∧ Hid (LsS w wr B b (.slice av L.length cv) (.slice al ll lc) L ks k xs (b :: bs') b1 b2 (nodesE (.mk nd ks))) ∧ Hid (Blk wr w.heap.size (exC nd (.slice (some ⟨b, 0, none⟩) len cap)) 37)) (fun _ i _ => len - (intOf i).toNat)
      case atStart => exact ⟨0, _, _, _, _, _, _, Nat.zero_le _, rfl, rfl, hst, P3⟩
      case round =>
        clear hst P3
        obtain ⟨k, al, ll, lc, xs, b1, b2, hkl, rfl, rfl, HS, HP⟩ := hrel
        have z13 := (HP.out.at' 13).trans c13
        by_cases hltn : k < len
        · have p0 : (k : Int) < (len : Int) := by omega
          have hlt : k < ks.length := by rw [← hl'.out]; exact hltn
          have hd := HS.out.kid
          rw [List.drop_eq_getElem_cons hlt] at hd
          unfold OwL at hd
          obtain ⟨cs, d1, d2, hbe, o1, r1, hd2⟩ := hd
          have hst := ow_stay hRW.out HS.out.gr hCL.out
          have hin : ∀ x ∈ d1, x ∈ b :: bs' := fun x hx => by rw [HS.out.cut, hbe]; exact List.mem_append_right _ (List.mem_append_left _ hx)
          obtain ⟨ka, kl, kc, rfl⟩ := o1.cs
          have o2 := o1.move _ (w' := _) (fun x hx => hst x (hin x hx))
          have hbb : b ∈ b :: bs' := List.mem_cons_self ..
          have R1 := hide (show World.rangeAt _ b (k * 14) (exC _ (.slice ka kl kc)).toList from fun j v hv => (World.cell?_of_block (hst b hbb)).trans (r1 j v hv))
          have IH := hide (ih.out _ (List.getElem_mem hlt) _ _ _ d1 _ B o2 HS.out.row (Nat.le_trans hB HS.out.gr.chg.size) (by have := nodes_mem (List.getElem_mem hlt); have h2 := hn.out; rw [nodesE] at h2; omega) (by have := HS.out.len; rw [List.drop_eq_getElem_cons hlt, nodesL9] at this; rw [List.length_append, List.length_map]; have := hLn.out; omega))
          have hstep := hide (fun e w' hp => HS.out.step (e := e) (w' := w') hRW.out hCL.out hlt hbe hd2 hp)
          have hP2 := hide (fun (w' : World) (v' : Value) (g : Gr _ w' (.slice al ll lc) v') => (show Blk w' w.heap.size (exC nd (.slice (some ⟨b, 0, none⟩) len cap)) 37 from (g.stay HP.out.lt (owns_kind HS.out.row HP.out (by decide))).trans HP.out))
          generalize ks[k].nd = kn at *
          have wk : Hid (wrap64 ((k : Int) + 1) = (k : Int) + 1) := hide (IntWalk.wrap64_in _ ⟨by omega, by omega⟩)
          clear o1 o2 r1 hd2 hbe hin hst HS
          go_wp2_with (first
            | (refine wpList_load_at rfl 37 _ rfl _ _ rfl _ _ (by with_reducible exact R1.out) Try.underlying37 rfl (exC_info _ _) ?_))
          refine IH.out.mono ?_
          intro e w2 hp
          have hg2 := hp
          obtain ⟨a4, l4, c4, ys, e1, he4, hS4⟩ := hstep.out e w2 hp
          subst he4
          obtain ⟨a5, n5, c5, zs, he5, h5, g5, _⟩ := hg2
          have P4 := hide (hP2.out w2 _ g5)
          cases he5
          replace hS4 := hide hS4
          clear hp h5 g5 hP2 hstep IH R1
          go_wp2_with fail
          go_roundw
          case rel => exact ⟨k + 1, _, _, _, _, _, _, hltn, rfl, by first | rfl | (rw [wk.out]; rfl), hS4, P4⟩
          case measure =>
            try rw [wk.out]
            exact meas_ls hltn
        · have p0 : ¬ (k : Int) < (len : Int) := by omega
          obtain rfl : k = ks.length := by have := hl'.out; omega
          have hfin := hide HS.out.fin
          clear HS HP
          go_wp2_with fail
          go_ret
          exact hfin.out
end Go.Proofs.Ytiajoppbgebnpaa
namespace Go.Proofs.Ytiajoppbgebnpaa
open Go.RowKit Go.Sort
set_option linter.unusedVariables false

theorem info_in10 : (Try.prog.info? 3).map (fun i => (i.zero, i.size, i.bytes)) = some (some (.int .i64 0), 1, 8) := by kernel_rfl
/-- A row of numbers of one's own. -/
abbrev RowI10 (w : World) (B : Nat) (v : Value) (ls : List Value) : Prop := w.ownsRow B 3 1 v ls.length ls
section
variable {ops : Array Oper} {o : Oper} {a : Act} {w : World} {Kn : Act → World → Prop} {Q : Exit → Act → World → Prop} {E : Prop} {B X : Nat} {v sv : Value} {ls : List Value}
theorem gr_of {w w' : World} {v v' : Value} (h2 : w.grownBy w' v.ownBlock) (h4 : v'.ownBlock = v.ownBlock ∨ v'.ownBlock = some w.heap.size) : Gr w w' v v' := by
  refine ⟨⟨h2.os, h2.tape, h2.output, h2.size, fun x hx hn => h2.block x hx (fun e => hn e.symm)⟩, ?_⟩
  rcases h4 with e | e
  · exact .inl e
  · exact .inr ⟨_, e, Nat.le_refl _⟩
theorem step_appS (hgd : o.guard = none) (s y : Operand)
    (ho : o.op = .call { callee := .builtin .append, args := #[s, y], argTypes := #[25, 25] }) (hs : a.eval s = v) (hx : a.eval y = .slice (some ⟨X, 0, none⟩) 1 1) (hown : RowS w B v ls) (hc : w.cell? ⟨X, 0, none⟩ = some sv) (h1c : sv.oneCell' = true) (hl : ls.length < 1000000) (hB : B ≤ w.heap.size)
    (h : ∀ v' w', RowS w' B v' (ls ++ [sv]) → Gr w w' v v' → Kn (a.put o.dst v') w') :
    if Region.wanted o (yielded ops a.tmps) = true then Oper.wp Try.prog o a w Kn Q else E := by
  have hw : Region.wanted o (yielded ops a.tmps) = true := by simp [Region.wanted, hgd]
  rw [if_pos hw]
  obtain ⟨i0, hi, hz0, hz1, hz2⟩ := info_parts info_sl10
  obtain ⟨v', w', hr, h2, h3, _, h4⟩ := run_append_own_at (P := Try.prog) w B 25 o.type 30 i0 _ 1 24 Try.underlying25 hi hz0 hz1 hz2 rfl (by decide) v ls.length ls hown
    ⟨X, 0, none⟩ 1 1 [sv] rfl (fun j u hj => by match j, hj with | 0, hj => (simp at hj; subst hj; simpa [Addr.add] using hc)) (fun u hu => by simp at hu; subst hu; exact h1c) (by unfold maxLen; omega) (by omega) hB
  unfold Oper.wp execOp
  simp only [ho, resolve, invoke, builtin, Sem.run_bind, Sem.run_pure, Result.andThen_ok, List.map_toArray, List.map_cons, List.map_nil, hs, hx, hr]
  exact h v' w' (by unfold RowS; rw [List.length_append]; exact h2) (gr_of h3 h4)
theorem step_appN (hgd : o.guard = none) (s y : Operand)
    (ho : o.op = .call { callee := .builtin .append, args := #[s, y], argTypes := #[26, 26] }) (hs : a.eval s = v) (hx : a.eval y = .slice (some ⟨X, 0, none⟩) 1 1) (hown : RowI10 w B v ls) (hc : w.cell? ⟨X, 0, none⟩ = some sv) (h1c : sv.oneCell' = true) (hl : ls.length < 1000000) (hB : B ≤ w.heap.size)
    (h : ∀ v' w', RowI10 w' B v' (ls ++ [sv]) → Gr w w' v v' → Kn (a.put o.dst v') w') :
    if Region.wanted o (yielded ops a.tmps) = true then Oper.wp Try.prog o a w Kn Q else E := by
  have hw : Region.wanted o (yielded ops a.tmps) = true := by simp [Region.wanted, hgd]
  rw [if_pos hw]
  obtain ⟨i0, hi, hz0, hz1, hz2⟩ := info_parts info_in10
  obtain ⟨v', w', hr, h2, h3, _, h4⟩ := run_append_own_at (P := Try.prog) w B 26 o.type 3 i0 _ 1 8 Try.underlying26 hi hz0 hz1 hz2 rfl (by decide) v ls.length ls hown
    ⟨X, 0, none⟩ 1 1 [sv] rfl (fun j u hj => by match j, hj with | 0, hj => (simp at hj; subst hj; simpa [Addr.add] using hc)) (fun u hu => by simp at hu; subst hu; exact h1c) (by unfold maxLen; omega) (by omega) hB
  unfold Oper.wp execOp
  simp only [ho, resolve, invoke, builtin, Sem.run_bind, Sem.run_pure, Result.andThen_ok, List.map_toArray, List.map_cons, List.map_nil, hs, hx, hr]
  exact h v' w' (by unfold RowI10; rw [List.length_append]; exact h2) (gr_of h3 h4)
end
theorem wpList_appI10 {ops : Array Oper} {rest : List Oper} {o : Oper} {a : Act} {w : World} {Q : Exit → Act → World → Prop} {B X : Nat} {v sv : Value} {ls : List Value} (hg : o.guard = none) (s y : Operand) (hop : o.op = Op.call { callee := Callee.builtin Builtin.append, args := #[s, y], argTypes := #[26, 26] })
    (hs : a.eval s = v) (hx : a.eval y = .slice (some ⟨X, 0, none⟩) 1 1) (hown : RowI10 w B v ls) (hc : w.cell? ⟨X, 0, none⟩ = some sv) (h1c : sv.oneCell' = true) (hl : ls.length < 1000000) (hB : B ≤ w.heap.size)
    (hK : ∀ v' w', RowI10 w' B v' (ls ++ [sv]) → Gr w w' v v' → wpList Try.prog ops Q rest (a.put o.dst v') w') : wpList Try.prog ops Q (o :: rest) a w := by
  obtain ⟨i0, hi, hz0, hz1, hz2⟩ := info_parts info_in10
  refine wpList_append_own_at (P := Try.prog) w hg s y 26 hop B 3 i0 _ 1 8 Try.underlying26 hi hz0 hz1 hz2 rfl (by decide) v ls.length ls hs hown
    ⟨X, 0, none⟩ 1 1 [sv] hx rfl (fun j u hj => by match j, hj with | 0, hj => (simp at hj; subst hj; simpa [Addr.add] using hc)) (fun u hu => by simp at hu; subst hu; exact h1c) (by unfold maxLen; omega) (by omega) hB ?_
  intro v' w' h1 h2 _ h4
  exact hK v' w' (by unfold RowI10; rw [List.length_append]; exact h1) (gr_of h2 h4)
theorem row_slv2 {w : World} {B e n m : Nat} {v : Value} {ls : List Value} (h : w.ownsRow B e n v m ls) : ∃ a n c, v = .slice a n c := by
  rcases h.2 with ⟨rfl, h0⟩ | ⟨g, cap, cur, rfl, _⟩
  · exact ⟨none, 0, 0, rfl⟩
  · exact ⟨_, _, _, rfl⟩
/-- A Book's block. -/
abbrev bkC (vL vN : Value) (s : Nat) : Array Value := #[vL, vN, .int .i64 s]
def BkAt (w : World) (bk : Nat) (vL vN : Value) (s : Nat) : Prop := Blk w bk (bkC vL vN s) 28
theorem full_any (w : World) (bk : Nat) (vL vN : Value) (s n : Nat) (hs : s ≤ 4000000000000000000) (hn : n ≤ 4000000000000000000) (h : BkAt w bk vL vN s) :
    Calls Try.prog 23 #[.pointer (some ⟨bk, 0, none⟩), .int .i64 n] w fun e w' => e = .returned (.bool (decide (33554432 < s + n))) ∧ w' = w.setCell ⟨bk, 2, none⟩ (.int .i64 ((s + n : Nat) : Int)) := by
  have c2 : w.cell? ⟨bk, 2, none⟩ = some (.int .i64 (s : Int)) := h.at' 2
  have fr := h.fr 2
  have c2' : (w.setCell ⟨bk, 2, none⟩ (.int .i64 ((s : Int) + n))).cell? ⟨bk, 2, none⟩ = some (.int .i64 ((s : Int) + n)) := (h.set 2 _).at' 2
  have hi : (s : Int) + n ≤ 9223372036854775807 := by omega
  have hd : decide ((33554432 : Int) < (s : Int) + n) = decide (33554432 < s + n) := by
    by_cases q : 33554432 < s + n
    · rw [decide_eq_true q, decide_eq_true (by omega)]
    · rw [decide_eq_false q, decide_eq_false (by omega)]
  go_enter Try.func23, Try.ntmps23
  go_wp2_with fail
  go_ret
  exact ⟨rfl, by push_cast; rfl⟩
end Go.Proofs.Ytiajoppbgebnpaa
namespace Go.Proofs.Ytiajoppbgebnpaa
open Go.RowKit Go.Sort
set_option linter.unusedVariables false

/-- A mark. -/
abbrev ndK (q op : Int) : Nd := ⟨q, op, 0, { data := #[] }, ⟨0, 0, false, false⟩, ⟨0, 0, false, false⟩, 0⟩
abbrev mkC (q op : Int) : Array Value := exC (ndK q op) (.slice none 0 0)
def putM (w : World) (g k : Nat) (q op : Int) : World := w.setCells g (k * 14) (mkC q op).toList
theorem mk_len (q op : Int) : (mkC q op).toList.length = 14 := exC_len _ _
theorem LstAt.th {w : World} {x : Lst} (h : LstAt w x) {k : Nat} (hk : k < x.c) : w.there x.g (k * 14) 14 := by
  obtain ⟨_, _, _, _, cells, h1, h2⟩ := h
  exact there_of_row h1 (by rw [h2]; omega)
theorem LstAt.put {w : World} {x y : Lst} (h : LstAt w x) (k : Nat) (q op : Int) : LstAt (putM w y.g k q op) x := by
  obtain ⟨a, b, c, d, cells, h1, h2⟩ := h
  by_cases e : x.g = y.g
  · obtain ⟨cs', h3, h4⟩ := row_setCells x.g 37 (mkC q op).toList (k * 14) w cells h1
    exact ⟨a, b, c, d, cs', by unfold putM; rw [← e]; exact h3, by rw [h4]; exact h2⟩
  · exact ⟨a, b, c, d, cells, (heap_setCells y.g _ _ w x.g e).trans h1, h2⟩
theorem putM_chg (w : World) (g k : Nat) (q op : Int) : Chg (· = g) w (putM w g k q op) := chg_setCells (m := (· = g)) rfl _ _ _
/-- The first n places of a list hold the mark. -/
def MkAt (w : World) (g n : Nat) (q op : Int) : Prop := ∀ k, k < n → w.rangeAt g (k * 14) (mkC q op).toList
theorem MkAt.same {w w' : World} {g n : Nat} {q op : Int} (h : MkAt w g n q op) (he : w'.heap[g]? = w.heap[g]?) : MkAt w' g n q op := fun k hk => range_of_block (h k hk) he
theorem MkAt.put {w : World} {g n : Nat} {q op : Int} (h : MkAt w g n q op) (ht : w.there g (n * 14) 14) : MkAt (putM w g n q op) g (n + 1) q op := fun k hk => by
  by_cases e : k = n
  · subst e
    exact World.rangeAt_setCells_same w g (k * 14) _ (by rw [mk_len]; exact ht)
  · exact World.rangeAt_setCells_apart (h k (by omega)) g (n * 14) _ (.inr (.inl (by rw [mk_len]; omega)))
theorem MkAt.other {w : World} {g n j : Nat} {q op q' op' : Int} (h : MkAt w g n q op) (hj : n ≤ j) : MkAt (putM w g j q' op') g n q op := fun k hk => World.rangeAt_setCells_apart (h k hk) g (j * 14) _ (.inr (.inl (by rw [mk_len]; omega)))
/-- A Book: its block, its two rows, its lists; rl and nl what the rows tell, tk the lists that are marked. -/
structure BookQ (w : World) (B bk : Nat) (vL vN : Value) (s : Nat) (rl nl tk : List Lst) : Prop where
  blk : BkAt w bk vL vN s
  row : RowS w B vL (rl.map slV)
  num : RowI10 w B vN (nl.map fun x => Value.int .i64 (x.n : Int))
  at' : ∀ (j : Nat) (x : Lst), tk[j]? = some x → LstAt w x ∧ MkAt w x.g x.n (-((j : Int) + 1)) 0
  nd : (tk.map Lst.g).Nodup
  low : B ≤ bk
abbrev BookSt (w : World) (B bk : Nat) (vL vN : Value) (s : Nat) (tk : List Lst) : Prop := BookQ w B bk vL vN s tk tk tk
section
variable {w w' : World} {B bk : Nat} {vL vN : Value} {s : Nat} {rl nl tk : List Lst}
theorem BookQ.lt (h : BookQ w B bk vL vN s rl nl tk) : bk < w.heap.size := (Array.getElem?_eq_some_iff.1 h.blk).1
theorem BookQ.own (h : BookQ w B bk vL vN s rl nl tk) {x : Nat} {cells : Array Value} {f : Nat × Nat} (hx : w.heap[x]? = some (.cells cells 37 f)) : x ≠ bk ∧ vL.ownBlock ≠ some x ∧ vN.ownBlock ≠ some x := by
  refine ⟨fun e => ?_, owns_kind h.row hx (by decide), owns_kind h.num hx (by decide)⟩
  subst e
  have := h.blk
  unfold BkAt Blk at this
  rw [hx] at this
  cases this
theorem BookQ.lst (h : BookQ w B bk vL vN s rl nl tk) {x : Lst} (hx : LstAt w x) : x.g ≠ bk ∧ vL.ownBlock ≠ some x.g ∧ vN.ownBlock ≠ some x.g := by
  obtain ⟨_, _, _, _, cells, h1, _⟩ := hx
  exact h.own h1
theorem BookQ.rows (h : BookQ w B bk vL vN s rl nl tk) : vL.ownBlock ≠ some bk ∧ vN.ownBlock ≠ some bk ∧ ∀ x, vL.ownBlock = some x → vN.ownBlock ≠ some x := by
  refine ⟨owns_kind h.row h.blk (by decide), owns_kind h.num h.blk (by decide), fun x hx => ?_⟩
  rcases h.row.2 with ⟨e, _⟩ | ⟨g, cap, cur, e, _, hg, _⟩
  · rw [e] at hx; cases hx
  · rw [e] at hx
    have : g = x := by simpa [Value.ownBlock] using hx
    subst this
    exact owns_kind h.num hg (by decide)
theorem BookQ.chg {m : Nat → Prop} (h : BookQ w B bk vL vN s rl nl tk) (hc : Chg m w w') (h1 : ¬ m bk) (h2 : ∀ x, vL.ownBlock = some x → ¬ m x) (h3 : ∀ x, vN.ownBlock = some x → ¬ m x) (h4 : ∀ x ∈ tk, ¬ m x.g) : BookQ w' B bk vL vN s rl nl tk where
  blk := (hc.block bk h.lt h1).trans h.blk
  row := owns_keep h.row (fun x hx => hc.block x (owns_lt h.row x hx).2 (h2 x hx))
  num := owns_keep h.num (fun x hx => hc.block x (owns_lt h.num x hx).2 (h3 x hx))
  at' j x hj := by
    obtain ⟨a, b⟩ := h.at' j x hj
    have he := hc.block x.g a.lt (h4 x (List.mem_of_getElem? hj))
    exact ⟨a.same he, b.same he⟩
  nd := h.nd
  low := h.low
theorem BookQ.below (h : BookQ w B bk vL vN s rl nl tk) (hb : Below w.heap.size w w') : BookQ w' B bk vL vN s rl nl tk :=
  h.chg (m := fun _ => False) (Chg.of_below hb) id (fun _ _ => id) (fun _ _ => id) (fun _ _ => id)
end
end Go.Proofs.Ytiajoppbgebnpaa
