/- The words of a text, written with blanks between, are cut into the same words; of no program. -/
import Derived.Test.YtljdkmfigcclkaaDoorBl8
import Derived.Test.YtljdkmfigcclkaaDoorPlW8
import Derived.Test.YtljdkmfigcclkaaDoorLen8
import Derived.Test.YtljdkmfigcclkaaDoorCaps
namespace Go.Proofs.YtljdkmfigcclkaaDoor
open Go.RowKit Go.Sort
set_option linter.unusedVariables false

theorem refL_no {t : List UInt8} (h : refL t = true) : upp t ≠ truL ∧ upp t ≠ falL := by
  unfold refL at h
  rw [decide_eq_true_eq, ba_size] at h
  by_cases h0 : t = []
  · subst h0; decide
  have hpos : 0 < t.length := List.length_pos_iff.2 h0
  unfold rN at h
  split at h
  · omega
  · next hs =>
    have hle := cut_le (ba t)
    have hne : cD (ba t) ≠ cC (ba t) := by
      intro e
      apply hs
      unfold synS
      rw [e]; simp
    have hlt : cD (ba t) - 1 < (ba t).size := by omega
    have hd := runE_all dig (ba t) (cC (ba t)) (cD (ba t) - 1) (by omega) (by show _ < cD (ba t); omega) hlt
    have hlast : t[t.length - 1]? = some (ba t)[cD (ba t) - 1] := by
      rw [List.getElem?_eq_getElem (by omega)]
      congr 1
      show t[t.length - 1] = (ba t).data[cD (ba t) - 1]
      simp only [h]
      simp
    generalize (ba t)[cD (ba t) - 1] = c at *
    have hu : (upp t)[t.length - 1]? = some (Lib.upperB c) := by unfold upp; rw [List.getElem?_map, hlast]; rfl
    have hlen : (upp t).length = t.length := by unfold upp; simp
    have h2 := (up8 c).2.1
    rw [hd] at h2
    constructor
    · intro e
      rw [← hlen, e] at hu
      have : Lib.upperB c = 69 := (Option.some.inj hu).symm
      rw [this] at h2
      exact absurd h2 (by decide)
    · intro e
      rw [← hlen, e] at hu
      have : Lib.upperB c = 69 := (Option.some.inj hu).symm
      rw [this] at h2
      exact absurd h2 (by decide)
theorem tok_paren (R : List UInt8 → Bool) (r : List UInt8) : tok R (40 :: r) = .ok 7 [40] 1 := by
  have hf : spFind (40 :: r) = some [40] := by simp [spFind, spelts, Lib.hasPrefix, List.isPrefixOf]
  unfold tok
  simp only
  rw [if_neg (by decide), if_neg (by decide)]
  unfold spTok
  rw [hf]; rfl
theorem spn_goods {R : List UInt8 → Bool} {L : List UInt8} : ∀ (l : List Wd) (p : Nat), Spn R L p l → Goods R l
  | [], p, h => trivial
  | x :: l, p, h => by
    obtain ⟨n, _, _, _, _, h5, h6⟩ := spn_word h
    obtain ⟨_, _, n', h3, _, _⟩ := h
    refine ⟨good_of h3, fun h4 => ?_, spn_goods l _ h5⟩
    rcases h6 with ⟨e, _⟩ | ⟨e, _⟩ | ⟨e, _⟩ | ⟨_, _, h40, hne, hnx⟩ | ⟨e, _⟩
    · omega
    · omega
    · omega
    · cases l with
      | nil => exact absurd rfl hne
      | cons y m =>
        have hy : y.at' = x.at' + n := hnx
        obtain ⟨_, _, k, hk, _, _⟩ := h5
        rw [hy] at hk
        have hd : L.drop (x.at' + n) = 40 :: L.drop (x.at' + n + 1) := by
          obtain ⟨q1, q2⟩ := List.getElem?_eq_some_iff.1 h40
          rw [List.drop_eq_getElem_cons q1, q2]
        rw [hd, tok_paren] at hk
        cases hyk : y with
        | mk yk yt ya =>
          rw [hyk] at hk
          simp only [Tok.ok.injEq] at hk
          exact ⟨_, _, rfl, hk.1.symm, hk.2.1.symm⟩
    · omega
theorem cutR_goods {s : ByteArray} {ws : List Wd} (h : cutR s = .ok ws) : Goods refL ws := by
  unfold cutR at h
  split at h
  · cases h
  · obtain ⟨l, e, hs⟩ := cut_spn refL s.data.toList _ 0 [] ws (Nat.le_refl _) (Nat.zero_le _) h
    rw [List.nil_append] at e
    rw [e]; exact spn_goods l 0 hs
/-- LexBlanks, of lists of bytes. -/
theorem blanks_same {s : ByteArray} {ws : List Wd} (h : cutR s = .ok ws) (q : Nat → List UInt8) (hq : ∀ i, q i ∈ blks) (hz : (bld q 4 0 ws).length ≤ 65535) : cutR (ba (bld q 4 0 ws)) = .ok (bls q 4 0 0 ws) := by
  unfold cutR
  rw [if_neg (by rw [ba_size]; omega), ba_list, bld_cut (fun t => refL_no) q hq ws 4 0 0 [] (cutR_goods h), List.nil_append]
theorem bls_len (q : Nat → List UInt8) : ∀ (l : List Wd) (p i a : Nat), (bls q p i a l).length = l.length
  | [], p, i, a => rfl
  | x :: l, p, i, a => by rw [bls, List.length_cons, List.length_cons, bls_len q l]
end Go.Proofs.YtljdkmfigcclkaaDoor
