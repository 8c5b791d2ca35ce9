/- The state of LexBlanks' loop, of lists alone. -/
import Derived.Test.YtljdkmfigcclkaaDoorLexBlK
namespace Go.Proofs.YtljdkmfigcclkaaDoor
open Go.RowKit Go.Sort
set_option linter.unusedVariables false

theorem txt_short : ∀ (l b : List UInt8) (n : Nat), txt l = some (b, n) → b.length ≤ n
  | [], b, n, h => by simp [txt] at h
  | [c], b, n, h => by
    simp only [txt] at h
    split at h
    · cases h; simp
    · cases h
  | c :: d :: r, b, n, h => by
    rw [txt] at h
    split at h
    · split at h
      · rw [Option.map_eq_some_iff] at h
        obtain ⟨⟨b', n'⟩, h1, h2⟩ := h
        have := txt_short r b' n' h1
        cases h2; simp; omega
      · cases h; simp
    · rw [Option.map_eq_some_iff] at h
      obtain ⟨⟨b', n'⟩, h1, h2⟩ := h
      have := txt_short (d :: r) b' n' h1
      cases h2; simp; omega
theorem tok_short {R : List UInt8 → Bool} {l : List UInt8} {k n : Nat} {t : List UInt8} (h : tok R l = .ok k t n) : t.length ≤ l.length := by
  have hl := tok_len h
  have ht : (l.take n).length = n := by rw [List.length_take]; omega
  rcases tok_cases h with ⟨_, rfl, _⟩ | ⟨_, _, hx, h2⟩ | ⟨_, rfl, _⟩ | ⟨_, rfl, _⟩ | ⟨_, rfl, _⟩ | ⟨_, _, rfl, _⟩
  · unfold trim0
    split
    · simp; omega
    · have := (List.dropWhile_suffix (fun x : UInt8 => x == 48) (l := l.take n)).length_le
      omega
  · have := txt_short _ _ _ hx
    omega
  · omega
  · unfold upp; rw [List.length_map]; omega
  · unfold upp; rw [List.length_map]; omega
  · omega
theorem spn_short {R : List UInt8 → Bool} {L : List UInt8} : ∀ (l : List Wd) (p : Nat), Spn R L p l → ∀ x ∈ l, x.text.length ≤ L.length
  | [], p, h, x, hx => by cases hx
  | y :: l, p, h, x, hx => by
    obtain ⟨_, _, n, h3, _, h5⟩ := h
    rcases List.mem_cons.1 hx with rfl | hx
    · have := tok_short h3
      rw [List.length_drop] at this; omega
    · exact spn_short l _ h5 x hx
theorem cutR_short {s : ByteArray} {ws : List Wd} (h : cutR s = .ok ws) : ∀ x ∈ ws, x.text.length ≤ 65535 := by
  unfold cutR at h
  split at h
  · cases h
  · next hs =>
    obtain ⟨l, e, hp⟩ := cut_spn refL s.data.toList _ 0 [] ws (Nat.le_refl _) (Nat.zero_le _) h
    rw [List.nil_append] at e
    subst e
    intro x hx
    have := spn_short ws 0 hp x hx
    rw [← Lib.size_eq] at this; omega
theorem spl_short {x : Wd} (h : x.text.length ≤ 65535) : (spl x).length ≤ 131072 := by
  unfold spl
  split
  · have := dbl_le x.text
    simp; omega
  · omega
/-- Some words are written, the others not yet. -/
def mix (ws' ws : List Wd) (i : Nat) : List Wd := ws'.take i ++ ws.drop i
section
variable {ws' ws : List Wd} {i : Nat}
theorem mix_len (h : ws'.length = ws.length) (hi : i ≤ ws.length) : (mix ws' ws i).length = ws.length := by unfold mix; rw [List.length_append, List.length_take, List.length_drop]; omega
theorem mix_0 : mix ws' ws 0 = ws := by unfold mix; simp
theorem mix_all (h : ws'.length = ws.length) : mix ws' ws ws.length = ws' := by unfold mix; rw [← h, List.take_length, h, List.drop_length, List.append_nil]
theorem mix_at (h : ws'.length = ws.length) (hi : i < ws.length) : (mix ws' ws i)[i]? = some ws[i] := by
  unfold mix
  rw [List.getElem?_append_right (by rw [List.length_take]; omega), List.length_take, List.getElem?_drop, show i + (i - min i ws'.length) = i by omega]
  exact List.getElem?_eq_getElem hi
theorem mix_prev (h : ws'.length = ws.length) {j : Nat} (hi : j + 1 ≤ ws.length) : (mix ws' ws (j + 1))[j]? = ws'[j]? := by
  unfold mix
  rw [List.getElem?_append_left (by rw [List.length_take]; omega), List.getElem?_take, if_pos (by omega)]
theorem mix_set (h : ws'.length = ws.length) (hi : i < ws.length) {y : Wd} (hy : ws'[i]? = some y) : (mix ws' ws i).set i y = mix ws' ws (i + 1) := by
  have hi' : i < ws'.length := by omega
  have e : ws'[i] = y := by rw [List.getElem?_eq_getElem hi'] at hy; exact Option.some.inj hy
  unfold mix
  rw [List.set_append, if_neg (by rw [List.length_take]; omega), List.length_take, show i - min i ws'.length = 0 by omega, List.drop_eq_getElem_cons hi, List.set_cons_zero, List.take_succ_eq_append_getElem hi', e]
  simp
end
/-- Where the loop stands. -/
structure BSt (q : Nat → List UInt8) (ws : List Wd) (i : Nat) (M : List UInt8) (p : Nat) : Prop where
  full : bld q 4 0 ws = M ++ bld q p i (ws.drop i)
  new : (bls q 4 0 0 ws).drop i = bls q p i M.length (ws.drop i)
  first : i = 0 → p = 4
  prev : ∀ j, i = j + 1 → ∃ y, (bls q 4 0 0 ws)[j]? = some y ∧ y.kind = p
theorem BSt.start (q : Nat → List UInt8) (ws : List Wd) : BSt q ws 0 [] 4 := ⟨rfl, rfl, fun _ => rfl, fun j h => by omega⟩
theorem BSt.step {q : Nat → List UInt8} {ws : List Wd} {i p : Nat} {M : List UInt8} (h : BSt q ws i M p) (hi : i < ws.length) :
    BSt q ws (i + 1) (M ++ (if p = 4 then [] else q i) ++ spl ws[i]) ws[i].kind ∧ (bls q 4 0 0 ws)[i]? = some { ws[i] with at' := (M ++ (if p = 4 then [] else q i)).length } := by
  have hf := h.full
  have hn := h.new
  rw [List.drop_eq_getElem_cons hi] at hf hn
  rw [bld] at hf
  rw [bls] at hn
  have hlen := bls_len q ws 4 0 0
  have hi' : i < (bls q 4 0 0 ws).length := by omega
  rw [List.drop_eq_getElem_cons hi'] at hn
  have hn1 := (List.cons.inj hn).1
  have hn2 := (List.cons.inj hn).2
  have hy : (bls q 4 0 0 ws)[i]? = some { ws[i] with at' := (M ++ (if p = 4 then [] else q i)).length } := by
    rw [List.getElem?_eq_getElem hi', hn1, List.length_append]
  refine ⟨⟨?_, ?_, fun e => by omega, fun j e => ?_⟩, hy⟩
  · rw [hf]; simp only [List.append_assoc]
  · rw [hn2]; congr 1; simp only [List.length_append]; omega
  · obtain rfl : i = j := by omega
    exact ⟨_, hy, rfl⟩
end Go.Proofs.YtljdkmfigcclkaaDoor
