/- What package area and the reference answer, whole: the same, for every area and number. Proved of the Go text. -/
import Derived.Test.YtibogmlnbipbbaaHas3
import Derived.Test.YtibogmlnbipbbaaOf3
import Derived.Test.YtibogmlnbipbbaaSize3
import Derived.Test.YtibogmlnbipbbaaMeet3
import Derived.Test.YtibogmlnbipbbaaMove3
import Derived.Test.YtibogmlnbipbbaaBegun3
namespace Go.Proofs.Ytibogmlnbipbbaa
open Go.RowKit Go.Sort
set_option linter.unusedVariables false

/-- What a call answers, whatever the world, and that it changes nothing that was there. -/
abbrev CallIs (f : Nat) (args : Array Value) (v : Value) : Prop := Hid (∀ w, Calls Try.prog f args w fun e w' => e = .returned v ∧ Below w.heap.size w w')
theorem size_agree (t l b r : Int) : ∃ n e : Int, CallIs 19 #[areaV t l b r] (.tuple #[.int .i64 n, .int .i64 e]) ∧ CallIs 21 #[areaV t l b r] (.tuple #[.int .i64 n, .int .i64 e]) := by
  by_cases ho : 0 ≤ t ∧ t ≤ b ∧ b < 65536 ∧ 0 ≤ l ∧ l ≤ r ∧ r < 702
  · by_cases hp : 4096 < (b - t + 1) * (r - l + 1)
    · exact ⟨_, _, hide fun w => asize_long t l b r w ho hp (mayIs_ok ho), hide fun w => rsize_long t l b r w ho hp (mayRIs_ok ho)⟩
    · exact ⟨_, _, hide fun w => asize_yes t l b r w ho hp (mayIs_ok ho), hide fun w => rsize_yes t l b r w ho hp (mayRIs_ok ho)⟩
  · exact ⟨_, _, hide fun w => asize_bad t l b r w (mayIs_no ho), hide fun w => rsize_bad t l b r w (mayRIs_no ho)⟩
/-- Do two areas have a place in common? -/
def metB (t l b r t' l' b' r' : Int) : Prop := (0 ≤ t ∧ t ≤ b ∧ b < 65536 ∧ 0 ≤ l ∧ l ≤ r ∧ r < 702) ∧ (0 ≤ t' ∧ t' ≤ b' ∧ b' < 65536 ∧ 0 ≤ l' ∧ l' ≤ r' ∧ r' < 702) ∧ max t t' ≤ min b b' ∧ max l l' ≤ min r r'
abbrev noneV : Value := .tuple #[areaV 0 0 0 0, .bool false]
theorem ameet_no (t l b r t' l' b' r' : Int) (h : ¬ metB t l b r t' l' b' r') : CallIs 13 #[areaV t l b r, areaV t' l' b' r'] noneV := by
  intro w
  unfold metB at h
  by_cases h1 : 0 ≤ t ∧ t ≤ b ∧ b < 65536 ∧ 0 ≤ l ∧ l ≤ r ∧ r < 702
  · by_cases h2 : 0 ≤ t' ∧ t' ≤ b' ∧ b' < 65536 ∧ 0 ≤ l' ∧ l' ≤ r' ∧ r' < 702
    · exact ameet_3 t l b r t' l' b' r' w (mayIs_ok h1) (mayIs_ok h2) (mayIs_no (by omega))
    · exact ameet_2 t l b r t' l' b' r' w (mayIs_ok h1) (mayIs_no h2)
  · exact ameet_1 t l b r t' l' b' r' w (mayIs_no h1)
theorem ameet_yes (t l b r t' l' b' r' : Int) (h : metB t l b r t' l' b' r') : CallIs 13 #[areaV t l b r, areaV t' l' b' r'] (.tuple #[areaV (max t t') (max l l') (min b b') (min r r'), .bool true]) := by
  intro w
  obtain ⟨h1, h2, h3, h4⟩ := h
  exact ameet_4 t l b r t' l' b' r' w (mayIs_ok h1) (mayIs_ok h2) (mayIs_ok (by omega))
theorem rmeet_no (t l b r t' l' b' r' : Int) (h : ¬ metB t l b r t' l' b' r') : CallIs 24 #[areaV t l b r, areaV t' l' b' r'] noneV := by
  intro w
  unfold metB at h
  by_cases h1 : 0 ≤ t ∧ t ≤ b ∧ b < 65536 ∧ 0 ≤ l ∧ l ≤ r ∧ r < 702
  · by_cases h2 : 0 ≤ t' ∧ t' ≤ b' ∧ b' < 65536 ∧ 0 ≤ l' ∧ l' ≤ r' ∧ r' < 702
    · by_cases h3 : min b b' < max t t'
      · exact rmeet_3 t l b r t' l' b' r' w h3 (mayRIs_ok h1) (mayRIs_ok h2)
      · exact rmeet_4 t l b r t' l' b' r' w h3 (by omega) (mayRIs_ok h1) (mayRIs_ok h2)
    · exact rmeet_2 t l b r t' l' b' r' w (mayRIs_ok h1) (mayRIs_no h2)
  · exact rmeet_1 t l b r t' l' b' r' w _ (mayRIs_no h1) (hide (rmay_any t' l' b' r'))
theorem rmeet_yes (t l b r t' l' b' r' : Int) (h : metB t l b r t' l' b' r') : CallIs 24 #[areaV t l b r, areaV t' l' b' r'] (.tuple #[areaV (max t t') (max l l') (min b b') (min r r'), .bool true]) := by
  intro w
  obtain ⟨h1, h2, h3, h4⟩ := h
  exact rmeet_5 t l b r t' l' b' r' w (by omega) (by omega) (mayRIs_ok h1) (mayRIs_ok h2)
theorem meet_agree (t l b r t' l' b' r' : Int) : ∃ (m0 m1 m2 m3 : Int) (v : Bool), CallIs 13 #[areaV t l b r, areaV t' l' b' r'] (.tuple #[areaV m0 m1 m2 m3, .bool v]) ∧ CallIs 24 #[areaV t l b r, areaV t' l' b' r'] (.tuple #[areaV m0 m1 m2 m3, .bool v]) := by
  by_cases h : metB t l b r t' l' b' r'
  · exact ⟨_, _, _, _, _, ameet_yes _ _ _ _ _ _ _ _ h, rmeet_yes _ _ _ _ _ _ _ _ h⟩
  · exact ⟨_, _, _, _, _, ameet_no _ _ _ _ _ _ _ _ h, rmeet_no _ _ _ _ _ _ _ _ h⟩
/-- Is the area, moved, still on the grid? -/
def stays (t l b r dr dc : Int) : Prop := 0 ≤ t + dr ∧ b + dr < 65536 ∧ 0 ≤ l + dc ∧ r + dc < 702
theorem amove_bad (t l b r dr dc : Int) (h : ¬ (0 ≤ t ∧ t ≤ b ∧ b < 65536 ∧ 0 ≤ l ∧ l ≤ r ∧ r < 702)) : CallIs 16 #[areaV t l b r, .int .i64 dr, .int .i64 dc] (.tuple #[areaV 0 0 0 0, .int .i64 11]) :=
  fun w => amove_1 t l b r dr dc w (mayIs_no h)
theorem stayIs (first last by' count : Int) (v : Bool) (h0 : 0 ≤ first) (h1 : first ≤ last) (h2 : last < count) (h3 : count ≤ 65536) (hv : stayB first last by' count = v) : StayIs first last by' count v := by
  have := fun w => stay_any first last by' count w h0 h1 h2 h3
  rw [hv] at this
  exact hide this
theorem stayB_yes {first last by' count : Int} (h : -first ≤ by' ∧ by' ≤ count - 1 - last) : stayB first last by' count = true := decide_eq_true h
theorem stayB_no {first last by' count : Int} (h : ¬ (-first ≤ by' ∧ by' ≤ count - 1 - last)) : stayB first last by' count = false := decide_eq_false h
theorem amove_off (t l b r dr dc : Int) (h : 0 ≤ t ∧ t ≤ b ∧ b < 65536 ∧ 0 ≤ l ∧ l ≤ r ∧ r < 702) (hs : ¬ stays t l b r dr dc) : CallIs 16 #[areaV t l b r, .int .i64 dr, .int .i64 dc] (.tuple #[areaV 0 0 0 0, .int .i64 10]) := by
  intro w
  unfold stays at hs
  by_cases h1 : -t ≤ dr ∧ dr ≤ 65536 - 1 - b
  · exact amove_3 t l b r dr dc w (mayIs_ok h) (stayIs _ _ _ _ _ (by omega) (by omega) (by omega) (by omega) (stayB_yes h1)) (stayIs _ _ _ _ _ (by omega) (by omega) (by omega) (by omega) (stayB_no (by omega)))
  · exact amove_2 t l b r dr dc w (mayIs_ok h) (stayIs _ _ _ _ _ (by omega) (by omega) (by omega) (by omega) (stayB_no h1))
theorem amove_yes (t l b r dr dc : Int) (h : 0 ≤ t ∧ t ≤ b ∧ b < 65536 ∧ 0 ≤ l ∧ l ≤ r ∧ r < 702) (hs : stays t l b r dr dc) : CallIs 16 #[areaV t l b r, .int .i64 dr, .int .i64 dc] (.tuple #[areaV (t + dr) (l + dc) (b + dr) (r + dc), .int .i64 0]) := by
  intro w
  unfold stays at hs
  exact amove_4 t l b r dr dc w (mayIs_ok h) (stayIs _ _ _ _ _ (by omega) (by omega) (by omega) (by omega) (stayB_yes (by omega))) (stayIs _ _ _ _ _ (by omega) (by omega) (by omega) (by omega) (stayB_yes (by omega))) h (by omega)
theorem move_agree (t l b r dr dc : Int) : ∃ m0 m1 m2 m3 e : Int, CallIs 16 #[areaV t l b r, .int .i64 dr, .int .i64 dc] (.tuple #[areaV m0 m1 m2 m3, .int .i64 e]) ∧ CallIs 25 #[areaV t l b r, .int .i64 dr, .int .i64 dc] (.tuple #[areaV m0 m1 m2 m3, .int .i64 e]) := by
  by_cases h : 0 ≤ t ∧ t ≤ b ∧ b < 65536 ∧ 0 ≤ l ∧ l ≤ r ∧ r < 702
  · by_cases hs : stays t l b r dr dc
    · refine ⟨_, _, _, _, _, amove_yes t l b r dr dc h hs, hide fun w => ?_⟩
      unfold stays at hs
      exact rmove_4 t l b r dr dc w (mayRIs_ok h) (by omega) (by omega) (by omega) (by omega) h (mayRIs_ok (by omega))
    · refine ⟨_, _, _, _, _, amove_off t l b r dr dc h hs, hide fun w => ?_⟩
      unfold stays at hs
      by_cases h0 : dr < -65536
      · exact rmove_20 t l b r dr dc w (mayRIs_ok h) h0
      by_cases h1 : 65536 < dr
      · exact rmove_21 t l b r dr dc w (mayRIs_ok h) h0 h1
      by_cases h2 : dc < -702
      · exact rmove_22 t l b r dr dc w (mayRIs_ok h) h0 h1 h2
      by_cases h3 : 702 < dc
      · exact rmove_23 t l b r dr dc w (mayRIs_ok h) h0 h1 h2 h3
      exact rmove_3 t l b r dr dc w (mayRIs_ok h) h0 h1 h2 h3 h (mayRIs_no (by omega))
  · exact ⟨_, _, _, _, _, amove_bad t l b r dr dc h, hide fun w => rmove_1 t l b r dr dc w (mayRIs_no h)⟩
abbrev BegunIs : Prop := CallIs 8 #[] (.bool true)
theorem begunIs : BegunIs := hide begun_any
end Go.Proofs.Ytibogmlnbipbbaa
