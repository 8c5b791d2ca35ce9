/- What spot.Compare answers, the row order; slices.SortFunc over places by it: the row then holds the places in row order. -/
import Derived.Test.YtmfkeobjbcinpaaShelf
import Derived.Test.YtmfkeobjbcinpaaTabAt7
namespace Go.Proofs.Ytmfkeobjbcinpaa
open Go.RowKit Go.Maps Go.Shelf Go.Sort
set_option linter.unusedVariables false

def ord1 (x y : Int) : Int := if x < y then -1 else if y < x then 1 else 0
def ord2 (a b c d : Int) : Int := if ord1 a c = 0 then ord1 b d else ord1 a c
theorem ord1_lt {x y : Int} (h : x < y) : ord1 x y = -1 := if_pos h
theorem ord1_gt {x y : Int} (h : y < x) : ord1 x y = 1 := by unfold ord1; rw [if_neg (by omega), if_pos h]
theorem ord1_eq {x y : Int} (h : x = y) : ord1 x y = 0 := by unfold ord1; rw [if_neg (by omega), if_neg (by omega)]

set_option maxHeartbeats 400000 in
theorem cmp_any (x y : Int) (w : World) : Calls Try.prog 71 #[.int .i64 x, .int .i64 y] w fun e w' => e = .returned (.int .i64 (ord1 x y)) ∧ w' = w := by
  by_cases h1 : x < y
  · have HE := hide (ord1_lt h1)
    go_enter Try.func71, Try.ntmps71
    go_wp2
    go_ret
    rw [HE.out]; exact ⟨rfl, rfl⟩
  · by_cases h2 : y < x
    · have HE := hide (ord1_gt h2)
      go_enter Try.func71, Try.ntmps71
      go_wp2
      go_ret
      rw [HE.out]; exact ⟨rfl, rfl⟩
    · have HE := hide (ord1_eq (show x = y by omega))
      go_enter Try.func71, Try.ntmps71
      go_wp2
      go_ret
      rw [HE.out]; exact ⟨rfl, rfl⟩
set_option maxHeartbeats 400000 in
theorem or_any (x y : Int) (b : Nat) (w : World) (h0 : w.cell? ⟨b, 0, none⟩ = some (.int .i64 x)) (h1 : w.cell? ⟨b, 1, none⟩ = some (.int .i64 y)) : Calls Try.prog 70 #[.slice (some ⟨b, 0, none⟩) 2 2] w fun e w' => e = .returned (.int .i64 (if x = 0 then y else x)) ∧ w' = w := by
  cases h3 : (x != 0)
  · have z : x = 0 := by simpa using h3
    subst z
    cases h2 : (y != 0)
    · have z : y = 0 := by simpa using h2
      subst z
      go_enter Try.func70, Try.ntmps70
      go_wp2
      go_rounds 3
      go_ret
      exact ⟨rfl, rfl⟩
    · go_enter Try.func70, Try.ntmps70
      go_wp2
      go_rounds 3
      go_ret
      exact ⟨rfl, rfl⟩
  · have z : ¬ x = 0 := by simpa using h3
    rw [if_neg z]
    go_enter Try.func70, Try.ntmps70
    go_wp2
    go_rounds 3
    go_ret
    exact ⟨rfl, rfl⟩
theorem or_as (x y v : Int) (b : Nat) (w : World) (h0 : w.cell? ⟨b, 0, none⟩ = some (.int .i64 x)) (h1 : w.cell? ⟨b, 1, none⟩ = some (.int .i64 y)) (hv : v = if x = 0 then y else x) : Calls Try.prog 70 #[.slice (some ⟨b, 0, none⟩) 2 2] w fun e w' => e = .returned (.int .i64 v) ∧ w' = w := by
  rw [hv]; exact or_any x y b w h0 h1
/-- Some draws, some new blocks. -/
def Gr (w w' : World) : Prop := ∃ q os, w' = grow (w.drewN q) os
theorem Gr.refl (w : World) : Gr w w := ⟨0, #[], by rw [grow_empty]; rfl⟩
theorem Gr.alloc {w w' : World} (h : Gr w w') (o : Obj) : Gr w (w'.alloc o) := by
  obtain ⟨q, os, rfl⟩ := h
  exact ⟨q, os ++ #[o], by rw [alloc_eq_grow, grow_grow]⟩
theorem Gr.drew {w w' : World} (h : Gr w w') : Gr w w'.drew := by
  obtain ⟨q, os, rfl⟩ := h
  exact ⟨q + 1, os, rfl⟩
set_option maxRecDepth 100000 in
set_option maxHeartbeats 1000000 in
theorem compare_grow (a b c d : Int) (w : World) : Calls Try.prog 50 #[spotV a b, spotV c d] w fun e w' => e = .returned (.int .i64 (ord2 a b c d)) ∧ Gr w w' := by
  go_enter Try.func50, Try.ntmps50
  go_wp2_with fail
  refine still_tail 10 (by kernel_rfl) (by kernel_rfl) ?_
  simp only [List.take_succ_cons, List.take_zero, List.drop_succ_cons, List.drop_zero]
  repeat (first | still_step | still_call (cmp_any _ _ _))
  refine wpStill_nil ?_
  go_wp2_with (go_at_call 70; refine (or_as (ord1 a c) (ord1 b d) (ord2 a b c d) _ _ (by go_simp) (by go_simp) rfl).mono ?_; rintro e w' ⟨rfl, rfl⟩)
  go_ret
  refine ⟨rfl, ?_⟩
  repeat (first | exact Gr.refl _ | refine Gr.alloc ?_ _ | refine Gr.drew ?_)

def cfS (x y : Sp) : Int := ord2 x.1 x.2 y.1 y.2
theorem lt_cfS (x y : Sp) : ltOf cfS x y = decide (ltS x y) := by
  unfold ltOf cfS ord2 ord1 ltS
  apply decide_eq_decide.2
  split <;> split <;> (try split) <;> (try split) <;> omega
theorem lt_true {x y : Sp} : ltOf cfS x y = true ↔ ltS x y := by rw [lt_cfS]; exact decide_eq_true_iff
theorem lt_false {x y : Sp} : ltOf cfS x y = false ↔ ¬ ltS x y := by rw [lt_cfS]; exact decide_eq_false_iff_not
theorem swoS : SWO (ltOf cfS) where
  irrefl x := lt_false.2 (ltS_irrefl x)
  trans x y z h1 h2 := lt_true.2 (ltS_trans (lt_true.1 h1) (lt_true.1 h2))
  ntrans x y z h1 h2 := lt_false.2 (by have a := lt_false.1 h1; have b := lt_false.1 h2; unfold ltS at *; omega)
theorem totS (x y : Sp) (h1 : ltOf cfS x y = false) (h2 : ltOf cfS y x = false) : x = y := by
  rcases ltS_tri x y with h | h | h
  · exact absurd h (lt_false.1 h1)
  · exact h
  · exact absurd h (lt_false.1 h2)
def encS (s : Sp) : List Value := [.int .i64 s.1, .int .i64 s.2]
def flatS (K : List Sp) : List Value := K.flatMap encS
theorem flatS_cons (s : Sp) (K : List Sp) : flatS (s :: K) = .int .i64 s.1 :: .int .i64 s.2 :: flatS K := rfl
theorem flatS_len (K : List Sp) : (flatS K).length = K.length * 2 := by
  induction K with
  | nil => rfl
  | cons s K ih => rw [flatS_cons, List.length_cons, List.length_cons, ih, List.length_cons]; omega
theorem flatS_append (K K' : List Sp) : flatS (K ++ K') = flatS K ++ flatS K' := by simp [flatS]
theorem flatS_get : ∀ (K : List Sp) (j : Nat) (h : j < K.length), (flatS K)[j * 2]? = some (.int .i64 K[j].1) ∧ (flatS K)[j * 2 + 1]? = some (.int .i64 K[j].2)
  | s :: K, 0, _ => by rw [flatS_cons]; simp
  | s :: K, j + 1, h => by
    have ih := flatS_get K j (by simpa using h)
    rw [flatS_cons, show (j + 1) * 2 = j * 2 + 1 + 1 by omega]
    simpa using ih
theorem flatK_eq (K : List Sp) : flatK encS 2 K.toArray = (flatS K).toArray := by
  refine ext_get! (by simp [flatS_len]) fun t ht => ?_
  have ht' : t < K.length * 2 := by simpa using ht
  have hj : t / 2 < K.length := by omega
  rw [get_flatK _ _ _ t (by simpa using ht')]
  have hk : (K.toArray)[t / 2]! = K[t / 2] := by rw [getElem!_pos _ _ (by simpa using hj)]; simp
  rw [hk]
  obtain ⟨e1, e2⟩ := flatS_get K (t / 2) hj
  have hl : t < (flatS K).length := by rw [flatS_len]; exact ht'
  rw [getElem!_pos _ t (by simpa using hl)]
  rcases Nat.mod_two_eq_zero_or_one t with h | h
  · have e : t = t / 2 * 2 := by omega
    rw [h]
    have : (flatS K)[t]? = some (.int .i64 K[t / 2].1) := by rw [← e1]; congr 1
    rw [List.getElem?_eq_getElem hl] at this
    simp only [List.getElem_toArray, Option.some.inj this]
    rfl
  · have e : t = t / 2 * 2 + 1 := by omega
    rw [h]
    have : (flatS K)[t]? = some (.int .i64 K[t / 2].2) := by rw [← e2]; congr 1
    rw [List.getElem?_eq_getElem hl] at this
    simp only [List.getElem_toArray, Option.some.inj this]
    rfl
/-- The places in row order. -/
def sortL (K : List Sp) : List Sp := K.mergeSort fun x y => !(ltOf cfS) y x
theorem sortL_perm (K : List Sp) : (sortL K).Perm K := List.mergeSort_perm _ _
theorem sortL_len (K : List Sp) : (sortL K).length = K.length := (sortL_perm K).length_eq
theorem nodup_of_lt {T : List Sp} (h : T.Pairwise ltS) : T.Nodup := h.imp (fun h => ltS_ne h)
theorem sortL_eq {K T : List Sp} (hp : K.Perm T) (hT : T.Pairwise ltS) : sortL K = T := by
  have h1 : (sortL K).Pairwise (fun a b => (!(ltOf cfS) b a) = true) := List.pairwise_mergeSort (fun a b c h1 h2 => by
      simp only [Bool.not_eq_true'] at h1 h2 ⊢
      exact swoS.ntrans _ _ _ h2 h1) (fun a b => by
      rcases ltS_tri a b with h | h | h
      · simp [lt_false.2 (ltS_asymm h)]
      · subst h; simp [lt_false.2 (ltS_irrefl _)]
      · simp [lt_false.2 (ltS_asymm h)]) K
  have h2 := (sortL_perm K).trans hp
  have h3 : (sortL K).Nodup := h2.nodup_iff.2 (nodup_of_lt hT)
  refine sorted_eq ?_ hT h2
  have h4 : (sortL K).Pairwise (fun a b => (!(ltOf cfS) b a) = true ∧ a ≠ b) := h1.and h3
  refine h4.imp ?_
  rintro a b ⟨h5, h6⟩
  simp only [Bool.not_eq_true'] at h5
  rcases ltS_tri a b with h | h | h
  · exact h
  · exact absurd h h6
  · exact absurd h (lt_false.1 h5)

theorem holdsS {w : World} {g : Nat} {cur : Array Value} {e : TypeId} {K : List Sp} (hb : w.heap[g]? = some (.cells cur e (0, 0))) (ht : cur.toList.take (K.length * 2) = flatS K) : HoldsK encS 2 w g 0 K.toArray := by
  unfold HoldsK
  rw [flatK_eq]
  intro j hj
  have hj' : j < (flatS K).length := by simpa using hj
  refine ⟨?_, by simp [World.frozen?, hb]⟩
  have h1 : (cur.toList.take (K.length * 2))[j]? = (flatS K)[j]? := by rw [ht]
  rw [List.getElem?_take_of_lt (by rw [← flatS_len]; exact hj')] at h1
  simp only [World.cell?, hb, Nat.zero_add]
  simp only [Option.isSome_none, Bool.false_eq_true, if_false]
  rw [← Array.getElem?_toList, h1]
  rw [List.getElem?_eq_getElem hj', getElem!_pos _ j (by simpa using hj')]
  simp
theorem putId_take (cur : Array Value) (F : List Value) (h : F.length ≤ cur.size) : (putCells id 0 F.toArray cur).toList.take F.length = F := by
  apply List.ext_getElem?
  intro j
  by_cases hj : j < F.length
  · rw [List.getElem?_take_of_lt hj, Array.getElem?_toList]
    simp [putCells, hj, show j < cur.size by omega]
  · rw [List.getElem?_take_eq_none (by omega), List.getElem?_eq_none (by omega)]
theorem cmpLaysS (blk off size : Nat) (w : World) : CmpLays Try.prog 50 #[] encS 2 cfS blk off size w := fun _ _ _ _ x y => compare_grow x.1 x.2 y.1 y.2 _

/-- slices.SortFunc(places, spot.Compare). -/
theorem sortS_any {w : World} {B : Nat} {v : Value} {K : List Sp} (h : w.ownsRow B 35 2 v K.length (flatS K)) (hl : K.length < 4611686018427387904) :
    Calls Try.prog 68 #[v, .func (.func 50) #[] #[]] w fun e w' => e = .returned (.tuple #[]) ∧ w'.ownsRow B 35 2 v K.length (flatS (sortL K)) ∧ w.grownBy w' v.ownBlock := by
  rcases h.2 with ⟨rfl, h0⟩ | ⟨g, cap, cur, rfl, hB, hg, h1, h2, h3, h4⟩
  · have e0 : K = [] := List.eq_nil_of_length_eq_zero h0
    subst e0
    refine (Try.sortS_none none 0 _ w).mono ?_
    rintro e w' ⟨rfl, rfl⟩
    exact ⟨rfl, by rw [show sortL [] = [] from List.eq_nil_of_length_eq_zero (sortL_len [])]; exact h, ⟨rfl, rfl, rfl, Nat.le_refl _, fun _ _ _ => rfl⟩⟩
  · have hgl : g < w.heap.size := (Array.getElem?_eq_some_iff.1 hg).1
    have eg : ∀ args w, (callFunc 50 args).run Try.prog w = .ok (.enter 50 args) w := enters_of Try.func50 (by kernel_rfl) rfl
    have hcon := AnyQ.slices_SortFunc_total Try.sortS 2 Try.isAgg35 Try.sizeOf35 encS (fun _ => rfl) (fun x v hv => by simp [encS] at hv; rcases hv with rfl | rfl <;> rfl) cfS swoS 50 #[] g 0 cap K.toArray w eg (cmpLaysS _ _ _ _) (holdsS hg h4) hgl (by simpa using hl) totS
    change Calls Try.prog 68 _ _ _ at hcon
    refine hcon.mono ?_
    rintro e w' ⟨rfl, n, os, rfl⟩
    rw [show (K.toArray.toList.mergeSort fun x y => !(ltOf cfS) y x).toArray = (sortL K).toArray from rfl]
    have hw : sortWorldK encS 2 w g 0 n (sortL K).toArray os = grow (putRow id (Sort.ahead w n) g 0 (flatS (sortL K)).toArray) os := by unfold sortWorldK putRowK; rw [flatK_eq]
    rw [hw]
    have hh : (grow (putRow id (Sort.ahead w n) g 0 (flatS (sortL K)).toArray) os).heap[g]? = some (.cells (putCells id 0 (flatS (sortL K)).toArray cur) 35 (0, 0)) := by
      rw [heap_grow_old _ _ (by simpa using hgl)]
      simp [putRow, mapBlock, Sort.ahead, Array.getElem?_modify, hg, onCells]
    refine ⟨rfl, ⟨by rw [flatS_len, sortL_len], .inr ⟨g, cap, _, rfl, hB, hh, h1, h2, by simp [putCells, h3], ?_⟩⟩, ?_⟩
    · have hle : (flatS (sortL K)).length = K.length * 2 := by rw [flatS_len, sortL_len]
      have := putId_take cur (flatS (sortL K)) (by rw [hle, h3]; exact Nat.mul_le_mul_right _ h1)
      rwa [hle] at this
    · refine ⟨rfl, rfl, rfl, by simp, fun k hk hne => ?_⟩
      rw [heap_grow_old _ _ (by simpa using hk)]
      have : g ≠ k := fun e => hne (by rw [e]; rfl)
      simp [putRow, mapBlock, Sort.ahead, Array.getElem?_modify, this]
end Go.Proofs.Ytmfkeobjbcinpaa
