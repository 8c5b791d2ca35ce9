/- LexPlaces of a text that is words: true. Proved of the Go text. -/
import Derived.Test.YtljdkmfigcclkaaDoorLen8
import Derived.Test.YtljdkmfigcclkaaDoorPlW8
namespace Go.Proofs.YtljdkmfigcclkaaDoor
open Go.RowKit Go.Sort
set_option linter.unusedVariables false

/-- What a word is, as the text has it. -/
def WordIs (s : ByteArray) (k a n : Nat) (t : ByteArray) (nx : Nat) (more : Prop) : Prop :=
  (k = 1 ∧ ∃ c, s.data.toList[a + n - 1]? = some c ∧ blB c = false) ∨ (k = 2 ∧ s.data.toList[a + n - 1]? = some 34) ∨ ((k = 3 ∨ k = 6 ∨ k = 7) ∧ t.size = n ∧ s.extract a (a + n) = t) ∨ (k = 4 ∧ t.size = n ∧ s.data.toList[a + n]? = some 40 ∧ more ∧ nx = a + n) ∨ (k = 5 ∧ t.size = n)
theorem word_is {s : ByteArray} {p : Nat} {x : Wd} {l : List Wd} (hs : s.size ≤ 65535) (h : Spn refL s.data.toList p (x :: l)) : ∃ n, p ≤ x.at' ∧ Gap s.data.toList p x.at' ∧ 1 ≤ n ∧ x.at' + n ≤ s.size ∧ Spn refL s.data.toList (x.at' + n) l ∧
    x.at' + n ≤ nextAt s.data.toList l ∧ nextAt s.data.toList l ≤ s.size ∧ Gap s.data.toList (x.at' + n) (nextAt s.data.toList l) ∧ WordIs s x.kind x.at' n (ba x.text) (nextAt s.data.toList l) (l ≠ []) := by
  obtain ⟨n, h1, h2, h3, h4, h5, h6⟩ := spn_word h
  have hnx := h5.next h4
  rw [← Lib.size_eq] at h4 hnx
  refine ⟨n, h1, h2, h3, h4, h5, hnx.1, hnx.2.1, hnx.2.2, ?_⟩
  rcases h6 with h | h | ⟨h, e, g⟩ | ⟨h, e, g⟩ | ⟨h, e⟩
  · exact .inl h
  · exact .inr (.inl h)
  · exact .inr (.inr (.inl ⟨h, by rw [ba_size]; exact e, by rw [ba_ext s _ _ h4, g]⟩))
  · exact .inr (.inr (.inr (.inl ⟨h, by rw [ba_size]; exact e, g⟩)))
  · exact .inr (.inr (.inr (.inr ⟨h, by rw [ba_size]; exact e⟩)))
theorem at_byte {s : ByteArray} {j : Nat} {c : UInt8} (h : s.data.toList[j]? = some c) (hj : j < s.size) : s[j] = c := by
  obtain ⟨h1, h2⟩ := List.getElem?_eq_some_iff.1 h
  rw [← h2]; rfl
theorem blB_34 {c : UInt8} (h : blB c = true) : ((c.toNat : Int) != 34) = true := by
  rw [bne_iff_ne]
  intro e
  have : c = 34 := (u8 c 34 (by decide)).2 (by omega)
  subst this
  exact absurd h (by decide)
set_option maxRecDepth 100000 in
set_option maxHeartbeats 8000000 in
theorem lexPl_ok {W : World} (hL : Lay8 W) (s : ByteArray) (hs : s.size ≤ 65535) {ws : List Wd} (hc : cutR s = .ok ws) :
    Calls Tryd.prog 5 #[.string s] W fun e w' => e = .returned (.bool true) ∧ Below W.heap.size W w' := by
  have H1 := hide (begun8.out W hL)
  have H2 := hide (fun w hl => cut8 s w hl (by unfold maxLen; omega))
  rw [hc] at H2
  replace hL := hide hL
  have hm' : s.size ≤ 9223372036854775807 := by omega
  have hlen := cutR_len hc
  have hsp : Hid (Spn refL s.data.toList 0 ws) := hide (by
    unfold cutR at hc
    rw [if_neg (by omega)] at hc
    obtain ⟨l, e, h⟩ := cut_spn refL s.data.toList _ 0 [] ws (Nat.le_refl _) (Nat.zero_le _) hc
    rw [e]; exact h)
  clear hc
  go_enter Tryd.func5, Tryd.ntmps5
  go_wp2_with fail
  refine H1.out.mono ?_
  rintro e w1 ⟨rfl, hb1⟩
  have HC := hide (H2.out w1 (hL.out.keep hb1))
  replace hb1 := hide hb1
  go_wp2_with fail
  refine HC.out.mono ?_
  rintro e w2 ⟨hb2, v, rfl, hrow⟩
  have hB2 := hide (next hb1.out hb2)
  obtain ⟨av, cv, rfl, hW⟩ := row_words hrow (by omega)
  replace hW := hide hW
  clear hb1 hb2 hrow H1 H2 HC hL
  go_wp2_with fail
  go_loopw [9, 10] (fun e i wr => ∃ p k : Nat, k ≤ ws.length ∧ p ≤ s.size ∧ e = .int .i64 p ∧ i = .int .i64 k ∧ Hid (Spn refL s.data.toList p (ws.drop k)) ∧ Hid (Below w2.heap.size w2 wr)) (fun _ i _ => ws.length - (intOf i).toNat)
  case atStart => exact ⟨0, 0, Nat.zero_le _, Nat.zero_le _, rfl, rfl, hsp, hide (Below.refl _ _)⟩
  case round =>
    obtain ⟨p, k, hk, hp, rfl, rfl, hS, hB⟩ := hrel
    by_cases hlt : k < ws.length
    · have hki : (k : Int) < ws.length := by omega
      have hne : ws ≠ [] := by rintro rfl; simp at hlt
      obtain ⟨g, rfl, hg⟩ := hW.out.2.resolve_left hne
      have hS' := hS.out
      rw [List.drop_eq_getElem_cons hlt] at hS'
      obtain ⟨n, m1, hgap, m2, m3, hS2, m4, m5, hgap2, hx⟩ := word_is hs hS'
      obtain ⟨x0, x1, x2⟩ := (hg k hlt).keep hB.out
      have hnx2 : Hid (∀ h : k + 1 < ws.length, wr.cell? ⟨g, (k + 1) * 3 + 2, none⟩ = some (.int .i64 (nextAt s.data.toList (ws.drop (k + 1)) : Nat))) := hide fun h => by
        rw [List.drop_eq_getElem_cons h]
        exact ((hg (k + 1) h).keep hB.out).2.2
      have hlast : Hid (k + 1 = ws.length → nextAt s.data.toList (ws.drop (k + 1)) = s.size) := hide fun h => by rw [h, List.drop_length, Lib.size_eq]; rfl
      have hmore : Hid (ws.drop (k + 1) ≠ [] → k + 1 < ws.length) := hide fun h => by
        rcases Nat.lt_or_ge (k + 1) ws.length with q | q
        · exact q
        · exact absurd (List.drop_eq_nil_of_le q) h
      generalize nextAt s.data.toList (ws.drop (k + 1)) = nx at *
      generalize ws[k] = xx at *
      obtain ⟨xk, xt, xa⟩ := xx
      simp only at x0 x1 x2 m1 hgap m3 hS2 m4 hgap2 hx
      generalize ba xt = t at *
      have hB3 := hide (step hB.out (wdO xk t xa))
      have hz : (wr.alloc (wdO xk t xa)).heap.size = wr.heap.size + 1 := World.size_alloc _ _
      obtain ⟨z0, z1, z2⟩ := (Blk.new wr #[.int .i64 xk, .string t, .int .i64 xa] 32).cells3
      have hnx3 : Hid (∀ h : k + 1 < ws.length, (wr.alloc (wdO xk t xa)).cell? ⟨g, (k + 1) * 3 + 2, none⟩ = some (.int .i64 nx)) := hide fun h => keep1 (step (Below.refl _ _) _) (hnx2.out h)
      have i1 : ¬ (xa : Int) < p := by omega
      have i2 : ¬ (s.size : Int) ≤ xa := by omega
      have ik : 1 ≤ xk ∧ xk ≤ 7 := by rcases hx with ⟨h, _⟩ | ⟨h, _⟩ | ⟨h, _⟩ | ⟨h, _⟩ | ⟨h, _⟩ <;> omega
      have i3 : ¬ (xk : Int) < 1 := by omega
      have i4 : ¬ (7 : Int) < xk := by omega
      have hk1 : (k : Int) + 1 ≤ 9223372036854775807 := by omega
      replace hgap := hide hgap
      replace hgap2 := hide hgap2
      replace hS2 := hide hS2
      replace hx := hide hx
      clear hS hS' hg hnx2
      obtain ⟨wz, hwz⟩ : ∃ wz, wr.alloc (wdO xk t xa) = wz := ⟨_, rfl⟩
      rw [hwz] at z0 z1 z2 hnx3 hB3 hz
      go_wp2_with fail
      go_loop [12] (fun a => ∃ q : Nat, p ≤ q ∧ q ≤ xa ∧ a = .int .i64 q) (fun a => xa - (intOf a).toNat)
      case atStart => exact ⟨p, Nat.le_refl _, m1, rfl⟩
      case round =>
        obtain ⟨q, q1, q2, rfl⟩ := hrel
        by_cases ql : q < xa
        · have qi : (q : Int) < xa := by omega
          have qs : q < s.size := by omega
          obtain ⟨c, hc1, hc2⟩ := hgap.out q q1 ql
          have HB := lblank8 s[q]
          have hb : blB s[q] = true := by rw [at_byte hc1 qs]; exact hc2
          rw [hb] at HB
          clear hc1 hc2 hb
          go_wp2_with (go_at_call 12; refine (HB.out _).mono ?_; rintro e w1 ⟨rfl, rfl⟩)
          go_round
          case rel => exact ⟨q + 1, by omega, by omega, by go_num⟩
          case measure => simp [intOf]; omega
        · have qi : ¬ (q : Int) < xa := by omega
          clear hgap
          rcases hx.out with ⟨hk0, c, hc1, hc2⟩ | ⟨hk0, hc1⟩ | ⟨hk0, tz, tx⟩ | ⟨hk0, tz, hc1, hmo, hnn⟩ | ⟨hk0, tz⟩
          · as_aux_lemma =>
              subst hk0
              replace z0 : wz.cell? ⟨wr.heap.size, 0, none⟩ = some (.int .i64 1) := z0
              clear hx
              have nxi : (xa : Int) + n ≤ nx := by omega
              by_cases hl2 : k + 1 < ws.length
              · have hli : (k : Int) + 1 < ws.length := by omega
                have hnc := hnx3.out hl2
                clear hnx3 hlast hmore
                go_wp2_with fail
                go_loop [9] (fun a => ∃ q : Nat, xa + n ≤ q ∧ q ≤ nx ∧ a = .int .i64 q) (fun a => (intOf a).toNat)
                case atStart => exact ⟨nx, m4, Nat.le_refl _, rfl⟩
                case round =>
                  obtain ⟨q, r1, r2, rfl⟩ := hrel
                  obtain ⟨j, rfl⟩ : ∃ j, q = j + 1 := ⟨q - 1, by omega⟩
                  have js : j < s.size := by omega
                  have ji : (xa : Int) < j + 1 := by omega
                  have HB := lblank8 s[j]
                  by_cases e : j + 1 = xa + n
                  · have hb : blB s[j] = false := by rw [at_byte (by rw [show j = xa + n - 1 by omega]; exact hc1) js]; exact hc2
                    replace e := hide e
                    rw [hb] at HB
                    clear hb
                    go_wp2_with (go_at_call 12; refine (HB.out _).mono ?_; rintro e w1 ⟨rfl, rfl⟩)
                    go_roundw
                    case rel => exact ⟨xa + n, k + 1, by omega, by omega, by rw [← e.out] <;> rfl, by go_num, hS2, hB3⟩
                    case measure => simp [intOf]; omega
                  · have hb : blB s[j] = true := by
                      obtain ⟨d, hd1, hd2⟩ := hgap2.out j (by omega) (by omega)
                      rw [at_byte hd1 js]; exact hd2
                    rw [hb] at HB
                    clear hb
                    go_wp2_with (go_at_call 12; refine (HB.out _).mono ?_; rintro e w1 ⟨rfl, rfl⟩)
                    go_round
                    case rel => exact ⟨j, by omega, by omega, by go_num⟩
                    case measure => simp [intOf]
              · have hli : ¬ (k : Int) + 1 < ws.length := by omega
                obtain rfl := hlast.out (by omega)
                clear hnx3 hlast hmore
                go_wp2_with fail
                go_loop [9] (fun a => ∃ q : Nat, xa + n ≤ q ∧ q ≤ s.size ∧ a = .int .i64 q) (fun a => (intOf a).toNat)
                case atStart => exact ⟨s.size, m4, Nat.le_refl _, rfl⟩
                case round =>
                  obtain ⟨q, r1, r2, rfl⟩ := hrel
                  obtain ⟨j, rfl⟩ : ∃ j, q = j + 1 := ⟨q - 1, by omega⟩
                  have js : j < s.size := by omega
                  have ji : (xa : Int) < j + 1 := by omega
                  have HB := lblank8 s[j]
                  by_cases e : j + 1 = xa + n
                  · have hb : blB s[j] = false := by rw [at_byte (by rw [show j = xa + n - 1 by omega]; exact hc1) js]; exact hc2
                    replace e := hide e
                    rw [hb] at HB
                    clear hb
                    go_wp2_with (go_at_call 12; refine (HB.out _).mono ?_; rintro e w1 ⟨rfl, rfl⟩)
                    go_roundw
                    case rel => exact ⟨xa + n, k + 1, by omega, by omega, by rw [← e.out] <;> rfl, by go_num, hS2, hB3⟩
                    case measure => simp [intOf]; omega
                  · have hb : blB s[j] = true := by
                      obtain ⟨d, hd1, hd2⟩ := hgap2.out j (by omega) (by omega)
                      rw [at_byte hd1 js]; exact hd2
                    rw [hb] at HB
                    clear hb
                    go_wp2_with (go_at_call 12; refine (HB.out _).mono ?_; rintro e w1 ⟨rfl, rfl⟩)
                    go_round
                    case rel => exact ⟨j, by omega, by omega, by go_num⟩
                    case measure => simp [intOf]
          · as_aux_lemma =>
              subst hk0
              replace z0 : wz.cell? ⟨wr.heap.size, 0, none⟩ = some (.int .i64 2) := z0
              clear hx
              have nxi : (xa : Int) + n ≤ nx := by omega
              by_cases hl2 : k + 1 < ws.length
              · have hli : (k : Int) + 1 < ws.length := by omega
                have hnc := hnx3.out hl2
                clear hnx3 hlast hmore
                go_wp2_with fail
                go_loop [9] (fun a => a = .int .i64 nx) (fun _ => 0)
                case atStart => rfl
                case round =>
                  cases hrel
                  obtain ⟨j, hj⟩ : ∃ j, nx = j + 1 := ⟨nx - 1, by omega⟩
                  have js : j < s.size := by omega
                  have ji : (xa : Int) < nx := by omega
                  have jn : (nx : Int) - 1 = j := by omega
                  have jm : -9223372036854775808 ≤ (nx : Int) - 1 := by omega
                  have HB := lblank8 s[j]
                  replace hj := hide hj
                  cases hb : blB s[j]
                  · rw [hb] at HB
                    clear hb
                    go_wp2_with (go_at_call 12; refine (HB.out _).mono ?_; rintro e w1 ⟨rfl, rfl⟩)
                    go_loop [9] (fun a => ∃ q : Nat, xa + n ≤ q ∧ q ≤ nx ∧ a = .int .i64 q) (fun a => (intOf a).toNat)
                    case atStart => exact ⟨nx, m4, Nat.le_refl _, rfl⟩
                    case round =>
                      obtain ⟨q, r1, r2, rfl⟩ := hrel
                      clear HB ji jn jm
                      obtain ⟨i, rfl⟩ : ∃ i, q = i + 1 := ⟨q - 1, by omega⟩
                      have is' : i < s.size := by omega
                      have ji : (xa : Int) < i + 1 := by omega
                      by_cases e : i + 1 = xa + n
                      · have hb : ((s[i].toNat : Int) != 34) = false := by rw [at_byte (by rw [show i = xa + n - 1 by omega]; exact hc1) is']; rfl
                        replace e := hide e
                        go_wp2_with fail
                        go_roundw
                        case rel => exact ⟨xa + n, k + 1, by omega, by omega, by rw [← e.out] <;> rfl, by go_num, hS2, hB3⟩
                        case measure => simp [intOf]; omega
                      · have hb : ((s[i].toNat : Int) != 34) = true := by
                          obtain ⟨d, hd1, hd2⟩ := hgap2.out i (by omega) (by omega)
                          rw [at_byte hd1 is']; exact blB_34 hd2
                        go_wp2_with fail
                        go_round
                        case rel => exact ⟨i, by omega, by omega, by go_num⟩
                        case measure => simp [intOf]
                  · rw [hb] at HB
                    clear hb
                    go_wp2_with (go_at_call 12; refine (HB.out _).mono ?_; rintro e w1 ⟨rfl, rfl⟩)
                    go_loop [9] (fun a => ∃ q : Nat, xa + n ≤ q ∧ q ≤ nx ∧ a = .int .i64 q) (fun a => (intOf a).toNat)
                    case atStart => exact ⟨nx, m4, Nat.le_refl _, rfl⟩
                    case round =>
                      obtain ⟨q, r1, r2, rfl⟩ := hrel
                      clear HB ji jn jm
                      obtain ⟨i, rfl⟩ : ∃ i, q = i + 1 := ⟨q - 1, by omega⟩
                      have is' : i < s.size := by omega
                      have ji : (xa : Int) < i + 1 := by omega
                      by_cases e : i + 1 = xa + n
                      · have hb : ((s[i].toNat : Int) != 34) = false := by rw [at_byte (by rw [show i = xa + n - 1 by omega]; exact hc1) is']; rfl
                        replace e := hide e
                        go_wp2_with fail
                        go_roundw
                        case rel => exact ⟨xa + n, k + 1, by omega, by omega, by rw [← e.out] <;> rfl, by go_num, hS2, hB3⟩
                        case measure => simp [intOf]; omega
                      · have hb : ((s[i].toNat : Int) != 34) = true := by
                          obtain ⟨d, hd1, hd2⟩ := hgap2.out i (by omega) (by omega)
                          rw [at_byte hd1 is']; exact blB_34 hd2
                        go_wp2_with fail
                        go_round
                        case rel => exact ⟨i, by omega, by omega, by go_num⟩
                        case measure => simp [intOf]
              · have hli : ¬ (k : Int) + 1 < ws.length := by omega
                obtain rfl := hlast.out (by omega)
                clear hnx3 hlast hmore
                go_wp2_with fail
                go_loop [9] (fun a => a = .int .i64 s.size) (fun _ => 0)
                case atStart => rfl
                case round =>
                  cases hrel
                  obtain ⟨j, hj⟩ : ∃ j, s.size = j + 1 := ⟨s.size - 1, by omega⟩
                  have js : j < s.size := by omega
                  have ji : (xa : Int) < s.size := by omega
                  have jn : (s.size : Int) - 1 = j := by omega
                  have jm : -9223372036854775808 ≤ (s.size : Int) - 1 := by omega
                  have HB := lblank8 s[j]
                  replace hj := hide hj
                  cases hb : blB s[j]
                  · rw [hb] at HB
                    clear hb
                    go_wp2_with (go_at_call 12; refine (HB.out _).mono ?_; rintro e w1 ⟨rfl, rfl⟩)
                    go_loop [9] (fun a => ∃ q : Nat, xa + n ≤ q ∧ q ≤ s.size ∧ a = .int .i64 q) (fun a => (intOf a).toNat)
                    case atStart => exact ⟨s.size, m4, Nat.le_refl _, rfl⟩
                    case round =>
                      obtain ⟨q, r1, r2, rfl⟩ := hrel
                      clear HB ji jn jm
                      obtain ⟨i, rfl⟩ : ∃ i, q = i + 1 := ⟨q - 1, by omega⟩
                      have is' : i < s.size := by omega
                      have ji : (xa : Int) < i + 1 := by omega
                      by_cases e : i + 1 = xa + n
                      · have hb : ((s[i].toNat : Int) != 34) = false := by rw [at_byte (by rw [show i = xa + n - 1 by omega]; exact hc1) is']; rfl
                        replace e := hide e
                        go_wp2_with fail
                        go_roundw
                        case rel => exact ⟨xa + n, k + 1, by omega, by omega, by rw [← e.out] <;> rfl, by go_num, hS2, hB3⟩
                        case measure => simp [intOf]; omega
                      · have hb : ((s[i].toNat : Int) != 34) = true := by
                          obtain ⟨d, hd1, hd2⟩ := hgap2.out i (by omega) (by omega)
                          rw [at_byte hd1 is']; exact blB_34 hd2
                        go_wp2_with fail
                        go_round
                        case rel => exact ⟨i, by omega, by omega, by go_num⟩
                        case measure => simp [intOf]
                  · rw [hb] at HB
                    clear hb
                    go_wp2_with (go_at_call 12; refine (HB.out _).mono ?_; rintro e w1 ⟨rfl, rfl⟩)
                    go_loop [9] (fun a => ∃ q : Nat, xa + n ≤ q ∧ q ≤ s.size ∧ a = .int .i64 q) (fun a => (intOf a).toNat)
                    case atStart => exact ⟨s.size, m4, Nat.le_refl _, rfl⟩
                    case round =>
                      obtain ⟨q, r1, r2, rfl⟩ := hrel
                      clear HB ji jn jm
                      obtain ⟨i, rfl⟩ : ∃ i, q = i + 1 := ⟨q - 1, by omega⟩
                      have is' : i < s.size := by omega
                      have ji : (xa : Int) < i + 1 := by omega
                      by_cases e : i + 1 = xa + n
                      · have hb : ((s[i].toNat : Int) != 34) = false := by rw [at_byte (by rw [show i = xa + n - 1 by omega]; exact hc1) is']; rfl
                        replace e := hide e
                        go_wp2_with fail
                        go_roundw
                        case rel => exact ⟨xa + n, k + 1, by omega, by omega, by rw [← e.out] <;> rfl, by go_num, hS2, hB3⟩
                        case measure => simp [intOf]; omega
                      · have hb : ((s[i].toNat : Int) != 34) = true := by
                          obtain ⟨d, hd1, hd2⟩ := hgap2.out i (by omega) (by omega)
                          rw [at_byte hd1 is']; exact blB_34 hd2
                        go_wp2_with fail
                        go_round
                        case rel => exact ⟨i, by omega, by omega, by go_num⟩
                        case measure => simp [intOf]
          · rcases hk0 with hk0 | hk0 | hk0
            · subst hk0
              replace z0 : wz.cell? ⟨wr.heap.size, 0, none⟩ = some (.int .i64 3) := z0
              clear hx
              subst tz
              have ts : (xa : Int) + t.size ≤ 9223372036854775807 := by omega
              have hwr : IntKind.i64.wrap ((xa : Int) + t.size) = ((xa + t.size : Nat) : Int) := by rw [wrap_ps _ (by omega) (by omega)]; omega
              have h1 : ¬ (s.size : Int) < (xa : Int) + t.size := by omega
              have h1' : decide ((s.size : Int) < (xa : Int) + t.size) = false := by rw [decide_eq_false_iff_not]; omega
              have h2 : (xa : Int) ≤ (xa : Int) + t.size := by omega
              have h3 : (xa : Int) + t.size ≤ s.size := by omega
              have h4 : Hid (((xa : Int) + (t.size : Int)).toNat = xa + t.size) := hide (by omega)
              have y1 := cell_regrown z1
              have y2 := cell_regrown z2
              have y0 := cell_regrown z0
              go_wp2_with fail
              go_quiet (fail)
              have v0 := fun n => cells_pd z0 n
              have v1 := fun n => cells_pd z1 n
              have v2 := fun n => cells_pd z2 n
              go_wp2_with fail
              go_roundw
              case rel => exact ⟨xa + t.size, k + 1, by omega, by omega, by go_num, by go_num, hS2, hide (below_dn hB3.out _)⟩
              case measure => simp [intOf]; omega
            · subst hk0
              replace z0 : wz.cell? ⟨wr.heap.size, 0, none⟩ = some (.int .i64 6) := z0
              clear hx
              subst tz
              have ts : (xa : Int) + t.size ≤ 9223372036854775807 := by omega
              have hwr : IntKind.i64.wrap ((xa : Int) + t.size) = ((xa + t.size : Nat) : Int) := by rw [wrap_ps _ (by omega) (by omega)]; omega
              have h1 : ¬ (s.size : Int) < (xa : Int) + t.size := by omega
              have h1' : decide ((s.size : Int) < (xa : Int) + t.size) = false := by rw [decide_eq_false_iff_not]; omega
              have h2 : (xa : Int) ≤ (xa : Int) + t.size := by omega
              have h3 : (xa : Int) + t.size ≤ s.size := by omega
              have h4 : Hid (((xa : Int) + (t.size : Int)).toNat = xa + t.size) := hide (by omega)
              have y1 := cell_regrown z1
              have y2 := cell_regrown z2
              have y0 := cell_regrown z0
              go_wp2_with fail
              go_quiet (fail)
              have v0 := fun n => cells_pd z0 n
              have v1 := fun n => cells_pd z1 n
              have v2 := fun n => cells_pd z2 n
              go_wp2_with fail
              go_roundw
              case rel => exact ⟨xa + t.size, k + 1, by omega, by omega, by go_num, by go_num, hS2, hide (below_dn hB3.out _)⟩
              case measure => simp [intOf]; omega
            · subst hk0
              replace z0 : wz.cell? ⟨wr.heap.size, 0, none⟩ = some (.int .i64 7) := z0
              clear hx
              subst tz
              have ts : (xa : Int) + t.size ≤ 9223372036854775807 := by omega
              have hwr : IntKind.i64.wrap ((xa : Int) + t.size) = ((xa + t.size : Nat) : Int) := by rw [wrap_ps _ (by omega) (by omega)]; omega
              have h1 : ¬ (s.size : Int) < (xa : Int) + t.size := by omega
              have h1' : decide ((s.size : Int) < (xa : Int) + t.size) = false := by rw [decide_eq_false_iff_not]; omega
              have h2 : (xa : Int) ≤ (xa : Int) + t.size := by omega
              have h3 : (xa : Int) + t.size ≤ s.size := by omega
              have h4 : Hid (((xa : Int) + (t.size : Int)).toNat = xa + t.size) := hide (by omega)
              have y1 := cell_regrown z1
              have y2 := cell_regrown z2
              have y0 := cell_regrown z0
              go_wp2_with fail
              go_quiet (fail)
              have v0 := fun n => cells_pd z0 n
              have v1 := fun n => cells_pd z1 n
              have v2 := fun n => cells_pd z2 n
              go_wp2_with fail
              go_roundw
              case rel => exact ⟨xa + t.size, k + 1, by omega, by omega, by go_num, by go_num, hS2, hide (below_dn hB3.out _)⟩
              case measure => simp [intOf]; omega
          · subst hk0
            replace z0 : wz.cell? ⟨wr.heap.size, 0, none⟩ = some (.int .i64 4) := z0
            clear hx
            subst tz
            have hl2 := hmore.out hmo
            have hnc := hnx3.out hl2
            rw [hnn] at hnc m4
            clear hnn hgap2
            obtain ⟨y, hy⟩ : ∃ y, xa + t.size = y := ⟨_, rfl⟩
            rw [hy] at hnc hS2 hc1
            have hyi : (xa : Int) + t.size = y := by omega
            have hz40 : y < s.size := by
              rcases Nat.lt_or_ge y s.size with g | g
              · exact g
              · rw [List.getElem?_eq_none (by rw [← Lib.size_eq]; exact g)] at hc1; cases hc1
            have e40 : ((s[y].toNat : Int) != 40) = false := by rw [at_byte hc1 hz40]; rfl
            have ts : (y : Int) ≤ 9223372036854775807 := by omega
            have h3 : ¬ (s.size : Int) ≤ y := by omega
            have h3' : (y : Int) < s.size := by omega
            replace hy := hide hy
            have h5 : ((k : Int) + 1 == (ws.length : Int)) = false := by rw [beq_eq_false_iff_ne]; omega
            have h6 : (k : Int) + 1 < ws.length := by omega
            clear hnx3 hlast hmore hc1 m4
            go_wp2_with fail
            go_roundw
            case rel => exact ⟨y, k + 1, by omega, by omega, by go_num, by go_num, hS2, hB3⟩
            case measure => simp [intOf]; omega
          · subst hk0
            replace z0 : wz.cell? ⟨wr.heap.size, 0, none⟩ = some (.int .i64 5) := z0
            clear hx
            subst tz
            have ts : (xa : Int) + t.size ≤ 9223372036854775807 := by omega
            clear hnx3 hlast hmore
            go_wp2_with fail
            go_roundw
            case rel => exact ⟨xa + t.size, k + 1, by omega, by omega, by go_num, by go_num, hS2, hide (hB3.out)⟩
            case measure => simp [intOf]; omega
    · have hki : ¬ (k : Int) < ws.length := by omega
      go_wp2_with fail
      go_ret
      exact ⟨rfl, next hB2.out hB.out⟩
end Go.Proofs.YtljdkmfigcclkaaDoor
