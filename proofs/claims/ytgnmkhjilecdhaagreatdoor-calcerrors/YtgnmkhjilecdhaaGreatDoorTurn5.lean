/- What runes.Turn answers, for every text: the pieces of its runes, the last one first. Proved of the Go text. -/
import Derived.Test.YtgnmkhjilecdhaaGreatDoorChar5
import Derived.Deep.RegionLaw
import Derived.Lib.LazyBuf
namespace Go.Proofs.YtgnmkhjilecdhaaGreatDoor.T5
open Go.RowKit Go.Sort
set_option linter.unusedVariables false
set_option maxRecDepth 100000

/-- The bytes from a to b. -/
def pc (s : ByteArray) (a b : Nat) : List UInt8 := (s.data.toList.drop a).take (b - a)
theorem pc_len (s : ByteArray) (a b : Nat) (h : b ≤ s.size) : (pc s a b).length = b - a := by
  unfold pc; rw [List.length_take, List.length_drop, ← Lib.size_eq]; omega
theorem pc_ext (s : ByteArray) (a b : Nat) : (s.extract a b).data.toList = pc s a b := by
  unfold pc; rw [ByteArray.data_extract, Array.toList_extract]
/-- The pieces of the first k runes, the last one first. -/
def tk (s : ByteArray) : Nat → List UInt8
  | 0 => []
  | k + 1 => pc s (sk s k 0) (sk s (k + 1) 0) ++ tk s k
theorem tk_len (s : ByteArray) : ∀ k, (tk s k).length = sk s k 0
  | 0 => rfl
  | k + 1 => by
    rw [tk, List.length_append, tk_len s k, pc_len s _ _ (sk_le s _ 0 (Nat.zero_le _))]
    have := sk_mono s (show k ≤ k + 1 by omega) 0
    omega
/-- The text turned. -/
def turned (s : ByteArray) : ByteArray := ⟨(tk s (rc s 0)).toArray⟩
theorem turned_size (s : ByteArray) : (turned s).size = s.size := by
  show (tk s (rc s 0)).toArray.size = _
  rw [List.size_toArray, tk_len, sk_all s _ 0 (Nat.zero_le _) (Nat.le_refl _)]
/-- Bytes as the cells of a row. -/
def bts (l : List UInt8) (j : Nat) : Value := .int .u8 ((l[j]?.getD 0).toNat : Int)
theorem bts_put (L P : List UInt8) (off j : Nat) (h : off ≤ L.length) :
    (if off ≤ j ∧ j < off + (P.map fun x : UInt8 => Value.int .u8 (x.toNat : Int)).length then (P.map fun x : UInt8 => Value.int .u8 (x.toNat : Int))[j - off]?.getD default else bts L j) = bts (L.take off ++ (P ++ L.drop (off + P.length))) j := by
  rw [List.length_map]
  unfold bts
  by_cases h1 : j < off
  · rw [if_neg (by omega), List.getElem?_append_left (by rw [List.length_take]; omega), List.getElem?_take_of_lt h1]
  · have e : (L.take off).length = off := by rw [List.length_take]; omega
    rw [List.getElem?_append_right (by omega), e]
    by_cases h2 : j < off + P.length
    · rw [if_pos (by omega), List.getElem?_append_left (by omega), List.getElem?_map, List.getElem?_eq_getElem (by omega)]
      rfl
    · rw [if_neg (by omega), List.getElem?_append_right (by omega), List.getElem?_drop]
      congr 5
      omega
theorem zeros_put (a last n : Nat) (P T : List UInt8) (h1 : last ≤ a) (h2 : a ≤ n) (hP : P.length = a - last) :
    (List.replicate (n - last) (0 : UInt8) ++ T).take (n - a) ++ (P ++ (List.replicate (n - last) (0 : UInt8) ++ T).drop (n - a + P.length)) = List.replicate (n - a) 0 ++ (P ++ T) := by
  rw [List.take_append_of_le_length (by rw [List.length_replicate]; omega), List.take_replicate, show min (n - a) (n - last) = n - a by omega,
    List.drop_append, List.length_replicate, List.drop_replicate, show n - last - (n - a + P.length) = 0 by omega, show n - a + P.length - (n - last) = 0 by omega]
  simp
theorem iter_setCell (w : World) (s : ByteArray) (p b o : Nat) (v : Value) (h : b < w.heap.size) : (w.iter s p).setCell ⟨b, o, none⟩ v = (w.setCell ⟨b, o, none⟩ v).iter s p := World.setCell_alloc_past _ _ _ _ h
theorem size_setCell' (w : World) (a : Addr) (v : Value) : (w.setCell a v).heap.size = w.heap.size := by simp
theorem iter_setCells (s : ByteArray) (p b : Nat) : ∀ (vs : List Value) (o : Nat) (w : World), b < w.heap.size → (w.iter s p).setCells b o vs = (w.setCells b o vs).iter s p
  | [], _, _, _ => rfl
  | v :: r, o, w, h => by
    show ((w.iter s p).setCell ⟨b, o, none⟩ v).setCells b (o + 1) r = _
    rw [iter_setCell w s p b o v h]
    exact iter_setCells s p b r (o + 1) _ (by rw [size_setCell']; exact h)
theorem size_setCells' (b : Nat) : ∀ (vs : List Value) (o : Nat) (w : World), (w.setCells b o vs).heap.size = w.heap.size
  | [], _, _ => rfl
  | v :: r, o, w => by
    show ((w.setCell ⟨b, o, none⟩ v).setCells b (o + 1) r).heap.size = _
    rw [size_setCells' b r, size_setCell']
/-- What the world is like in Turn's loop. -/
def TurnAt (w : World) (s : ByteArray) (pos last : Nat) (T : List UInt8) (wr : World) : Prop :=
  ∃ w1, wr = w1.iter s pos ∧ w1.heap.size = w.heap.size + 1 ∧ w1.rowIs w.heap.size 5 s.size (bts (List.replicate (s.size - last) 0 ++ T)) ∧ Below w.heap.size w w1
theorem turn_step {w w1 wx : World} {s : ByteArray} {pos last a : Nat} {T P : List UInt8} (hz : w1.heap.size = w.heap.size + 1) (hr : w1.rowIs w.heap.size 5 s.size (bts (List.replicate (s.size - last) 0 ++ T))) (hb : Below w.heap.size w w1)
    (e1 : wx.os = w1.os) (e2 : wx.tape = w1.tape) (e3 : wx.output = w1.output) (e4 : wx = { wx with heap := w1.heap }.iter s pos) (h1 : last ≤ a) (h2 : a ≤ s.size) (hP : P.length = a - last) :
    TurnAt w s pos a (P ++ T) (wx.setCells w.heap.size (s.size - a) (P.map fun x : UInt8 => Value.int .u8 (x.toNat : Int))) := by
  have hr' : ({ wx with heap := w1.heap } : World).rowIs w.heap.size 5 s.size (bts (List.replicate (s.size - last) 0 ++ T)) := hr
  refine ⟨({ wx with heap := w1.heap } : World).setCells w.heap.size (s.size - a) (P.map fun x : UInt8 => Value.int .u8 (x.toNat : Int)), ?_, ?_, ?_, ?_⟩
  · rw [← iter_setCells s pos w.heap.size _ _ _ (by show _ < w1.heap.size; omega), ← e4]
  · rw [size_setCells']; exact hz
  · refine (rowIs_setCells _ _ _ _ hr').congr fun j _ => ?_
    rw [bts_put _ _ _ _ (by rw [List.length_append, List.length_replicate]; omega), zeros_put a last s.size P T h1 h2 hP]
  · exact below_setCells (Nat.le_refl _) _ _ _ ⟨e1.trans hb.os, e2.trans hb.tape, e3.trans hb.output, hb.size, hb.block⟩
set_option maxRecDepth 100000 in
theorem conv_row {w : World} {b n : Nat} {L : List UInt8} (h : w.rowIs b 5 n (bts L)) (hl : L.length = n) (c : Nat) : (convert 93 9 (.slice (some ⟨b, 0, none⟩) n c)).run Tryz.prog w = .ok (.string ⟨L.toArray⟩) w := by
  have := run_convert_bytes_arg (P := Tryz.prog) w 93 5 Tryz.underlying93 Tryz.underlying5 b 0 n c (L.map fun x => (x.toNat : Int)) (by simpa using hl) (fun i hi => by
    rw [Nat.zero_add, h.cell hi]
    unfold bts
    simp [List.getD, List.getElem?_map, List.getElem?_eq_getElem (show i < L.length by omega)]) 9 Tryz.underlying9
  rw [this]
  congr 2
  unfold strOfNums
  congr 2
  rw [List.map_map]
  conv => rhs; rw [← List.map_id L]
  apply List.map_congr_left
  intro x _
  simp
theorem size_u8 (w : World) : (Go.sizeOf 5).run Tryz.prog w = .ok 1 w := by
  have h : (Tryz.prog.info? 5).map (·.size) = some 1 := by kernel_rfl
  obtain ⟨i, hi, hs⟩ := Option.map_eq_some_iff.1 h
  simp [Go.sizeOf, typeInfo, hi, hs]
theorem info_u8 : (Tryz.prog.info? 5).map (fun i => (i.zero, i.size, i.bytes)) = some (some (.int .u8 0), 1, 1) := by kernel_rfl
theorem iter_next {w1 : World} {n : Nat} (h : w1.heap.size = n) (s : ByteArray) (pos : Nat) (ty : TypeId) (hp : pos < s.size) :
    (Instr.next (.pointer (some ⟨n, 0, none⟩)) true ty).run Tryz.prog (w1.iter s pos) = .ok (.tuple #[.bool true, .int .i64 pos, .int .i32 (Utf8.decode s pos).1]) (w1.iter s (pos + (Utf8.decode s pos).2)) := by
  subst h; exact run_next_any w1 s pos ty hp
theorem iter_stop {w1 : World} {n : Nat} (h : w1.heap.size = n) (s : ByteArray) (pos : Nat) (ty : TypeId) (hp : ¬ pos < s.size) :
    (Instr.next (.pointer (some ⟨n, 0, none⟩)) true ty).run Tryz.prog (w1.iter s pos) = .ok (.tuple #[.bool false]) (w1.iter s pos) := by
  subst h; exact run_next_end w1 s pos ty hp
theorem iterPos_at {w1 : World} {n : Nat} (h : w1.heap.size = n) (s : ByteArray) (pos : Nat) : (w1.iter s pos).iterPos n = pos := by subst h; simp

set_option maxHeartbeats 1000000 in
theorem turn_any (s : ByteArray) (hs : s.size ≤ 200000) : CallIs 70 #[.string s] (.string (turned s)) := by
  intro w
  have hmk : ∀ w : World, (Instr.makeSlice 93 (.int .i64 (s.size : Int)) (.int .i64 (s.size : Int))).run Tryz.prog w = .ok (.slice (some ⟨w.heap.size, 0, none⟩) s.size s.size) (w.alloc (.cells (madeCells #[.int .u8 0] s.size) 5)) := fun w =>
    run_make_row' (P := Tryz.prog) 93 5 (.int .u8 0) 1 Tryz.underlying93 info_u8 rfl .i64 .i64 s.size (by omega) (by omega) w
  go_enter Tryz.func70, Tryz.ntmps70
  go_wp2
  go_loopw [4, 5] (fun last _ wr => ∃ k : Nat, k ≤ rc s 0 ∧ last = .int .i64 (sk s (k - 1) 0 : Nat) ∧ TurnAt w s (sk s k 0) (sk s (k - 1) 0) (tk s (k - 1)) wr) (fun _ _ wr => s.size - wr.iterPos (w.heap.size + 1))
  case atStart => 
    refine ⟨0, Nat.zero_le _, rfl, _, rfl, by simp, (World.rowIs_made w (.int .u8 0) s.size 5).congr fun j hj => ?_, (Below.refl _ _).alloc (Nat.le_refl _) _⟩
    simp [bts, tk, sk, hj]
  case round =>
    obtain ⟨k, hk, rfl, w1, rfl, hz, hr, hb⟩ := hrel
    have h1 := sk_mono s (show k - 1 ≤ k by omega) 0
    have hle := sk_le s k 0 (Nat.zero_le _)
    by_cases hp : sk s k 0 < s.size
    · have hnx : ∀ ty, (Instr.next (.pointer (some ⟨w.heap.size + 1, 0, none⟩)) true ty).run Tryz.prog (w1.iter s (sk s k 0)) = _ := fun ty => iter_next hz s (sk s k 0) ty hp
      have hpn : Hid (sk s k 0 + (Utf8.decode s (sk s k 0)).2 = sk s (k + 1) 0) := hide (by rw [sk_succ, nx, if_pos hp]; rfl)
      have hkr := (sk_lt_iff s k 0 (Nat.zero_le _)).1 hp
      have hgt := hide (wd_pos s _ hp)
      have hT : Hid (tk s k = pc s (sk s (k - 1) 0) (sk s k 0) ++ tk s (k - 1)) := by
        cases k with
        | zero => exact hide (by simp [tk, pc, sk])
        | succ k => exact hide rfl
      have hk0 := hide (show sk s k 0 = 0 → k = 0 by
        intro h
        cases k with
        | zero => rfl
        | succ k => have := sk_strict s (Nat.zero_le _) (show 0 < k + 1 by omega) (show 0 < rc s 0 by omega); omega)
      have hfin : Hid (∀ wr, TurnAt w s (sk s k 0 + (Utf8.decode s (sk s k 0)).2) (sk s k 0) (tk s k) wr → ∃ k' : Nat, k' ≤ rc s 0 ∧ Value.int .i64 (sk s k 0 : Nat) = .int .i64 (sk s (k' - 1) 0 : Nat) ∧ TurnAt w s (sk s k' 0) (sk s (k' - 1) 0) (tk s (k' - 1)) wr) := by
        refine hide fun wr h => ⟨k + 1, by omega, rfl, ?_⟩
        rw [hpn.out] at h
        exact h
      have hpc := hide (pc_len s (sk s (k - 1) 0) (sk s k 0) hle)
      have hpe := hide (pc_ext s (sk s (k - 1) 0) (sk s k 0))
      have hxz : (s.extract (sk s (k - 1) 0) (sk s k 0)).size = sk s k 0 - sk s (k - 1) 0 := by rw [ByteArray.size_extract]; omega
      have hg := hide (iterPos_at hz s (sk s k 0))
      have hg' := hide (iterPos_at hz s (sk s k 0 + (Utf8.decode s (sk s k 0)).2))
      unfold wd at hgt
      generalize tk s k = T' at *
      generalize tk s (k - 1) = T at *
      generalize sk s k 0 = p at *
      generalize sk s (k - 1) 0 = q at *
      generalize hd : p + (Utf8.decode s p).2 = p' at *
      replace hd := hide hd
      go_wp2
      obtain ⟨d, hdp⟩ : ∃ d, s.size = d + p := ⟨s.size - p, by omega⟩
      have hs' := hs
      have c0 : IntKind.i64.wrap ((s.size : Int) - p) = d := by rw [wrap_small _ (by omega) (by omega)]; omega
      have c3 : d ≤ s.size := by omega
      have c6 : s.size - d = p := by omega
      have c7 : Hid (d = s.size - p) := hide (by omega)
      by_cases hp0 : p = 0
      · have c8 : s.size = d := by omega
        have c9 : q = 0 := by omega
        have c0' : IntKind.i64.wrap ((s.size : Int) - p) = s.size := by rw [c0, c8]
        have hP : Hid (pc s q p = []) := hide (List.eq_nil_of_length_eq_zero (by rw [hpc.out]; omega))
        have hpq : Hid (p - q = 0) := hide (by omega)
        have hx0 : (s.extract q p).size ≤ 0 := by omega
        have hqp : q ≤ p := by omega
        have hpz : p ≤ s.size := by omega
        have hR : Hid (TurnAt w s p' p T' (w1.iter s p').drew) := by
          have := turn_step (wx := (w1.iter s p').drew) (pos := p') (a := p) (P := []) hz hr hb rfl rfl rfl rfl (show q ≤ p by omega) (by omega) (by simp; omega)
          rw [hT.out, hP.out]
          exact hide this
        clear c0 c3 c6 c7 c8 c9 hdp hp0 hT hxz hpe hpc hk0
        go_region_law (refine step_copy_string rfl (.tmp 19) (.tmp 23) 93 9 rfl 5 Tryz.underlying93 size_u8 w.heap.size 0 0 0 (by simp [Act.eval, Act.put]) (s.extract q p) (by simp [Act.eval, Act.put]) hx0 (fun j hj => by omega) (fun j hj => by omega) ?_)
        rw [hpq.out]
        have hR' : Hid (TurnAt w s p' p T' ((w1.iter s p').drew.setCells w.heap.size 0 (List.take 0 (List.drop q (List.map (fun x => Value.int IntKind.u8 (x.toNat : Int)) s.data.toList))))) := hR
        generalize (w1.iter s p').drew.setCells w.heap.size 0 (List.take 0 (List.drop q (List.map (fun x => Value.int IntKind.u8 (x.toNat : Int)) s.data.toList))) = W4 at *
        go_wp2
        go_roundw
        case rel => exact hfin.out _ hR'.out
        case measure =>
          obtain ⟨w4, e4, z4, _, _⟩ := hR'.out
          have := hd.out; have := hgt.out
          rw [e4, iterPos_at z4, hg.out]
          omega
      · have c2 : ¬ s.size = d := by omega
        have c10 : (s.extract q p).size ≤ p := by omega
        replace hdp := hide hdp
        replace hxz := hide hxz
        replace hp := hide hp
        go_region_law (refine step_copy_string rfl (.tmp 19) (.tmp 23) 93 9 rfl 5 Tryz.underlying93 size_u8 w.heap.size d p p (by simp [Act.eval, Act.put]) (s.extract q p) (by simp [Act.eval, Act.put]) c10 (fun j hj => by have := hdp.out; have := hxz.out; have := hp.out; rw [show (World.cell? (World.drew (w1.iter s p')) _) = _ from (hr.alloc (.stringIter s p')).cell (i := d + j) (by omega)]; rfl) (fun j _ => (hr.alloc (.stringIter s p')).frozen _) ?_)
        have hR : Hid (TurnAt w s p' p T' ((w1.iter s p').drew.setCells w.heap.size d (List.take (p - q) (List.drop q (List.map (fun x => Value.int IntKind.u8 (x.toNat : Int)) s.data.toList))))) := by
          have := turn_step (wx := (w1.iter s p').drew) (pos := p') (a := p) (P := pc s q p) hz hr hb rfl rfl rfl rfl (show q ≤ p by omega) (by have := hp.out; omega) hpc.out
          rw [hT.out, c7.out]
          unfold pc at this ⊢
          rw [List.map_take, List.map_drop] at this
          exact hide this
        generalize (w1.iter s p').drew.setCells w.heap.size d (List.take (p - q) (List.drop q (List.map (fun x => Value.int IntKind.u8 (x.toNat : Int)) s.data.toList))) = W4 at *
        go_wp2
        go_roundw
        case rel => exact hfin.out _ hR.out
        case measure =>
          obtain ⟨w4, e4, z4, _, _⟩ := hR.out
          have := hd.out; have := hgt.out; have := hp.out
          rw [e4, iterPos_at z4, hg.out]
          omega
    · have hnx : ∀ ty, (Instr.next (.pointer (some ⟨w.heap.size + 1, 0, none⟩)) true ty).run Tryz.prog (w1.iter s (sk s k 0)) = _ := fun ty => iter_stop hz s (sk s k 0) ty hp
      have hk2 : k = rc s 0 := by
        have := (sk_lt_iff s k 0 (Nat.zero_le _)).2
        rcases Nat.lt_or_ge k (rc s 0) with h | h
        · exact absurd (this h) hp
        · omega
      have hT : Hid (tk s k = pc s (sk s (k - 1) 0) s.size ++ tk s (k - 1)) := by
        have e : sk s k 0 = s.size := by omega
        rw [← e]
        cases k with
        | zero => exact hide (by simp [tk, pc, sk])
        | succ k => exact hide rfl
      have hL := hide (tk_len s k)
      have hpc := hide (pc_len s (sk s (k - 1) 0) s.size (Nat.le_refl _))
      have hq : sk s (k - 1) 0 ≤ s.size := by omega
      have hxz : (s.extract (sk s (k - 1) 0) s.size).size ≤ s.size := by rw [ByteArray.size_extract]; omega
      have hsk : Hid (sk s k 0 = s.size) := hide (by omega)
      have hend : Hid (turned s = ⟨(tk s k).toArray⟩) := by rw [hk2]; exact hide rfl
      generalize hpp : sk s k 0 = p at *
      generalize tk s k = T' at *
      generalize tk s (k - 1) = T at *
      generalize sk s (k - 1) 0 = q at *
      replace hpp := hide hpp
      replace hk2 := hide hk2
      have hcp := run_copy_string (P := Tryz.prog) (w1.iter s p) 93 9 3 5 w.heap.size 0 s.size s.size (s.extract q s.size) Tryz.underlying93 size_u8 hxz (fun j hj => by rw [show ((w1.iter s p).cell? _) = _ from (hr.alloc (.stringIter s p)).cell (i := 0 + j) (by omega)]; rfl) (fun j _ => (hr.alloc (.stringIter s p)).frozen _)
      have hR : Hid (TurnAt w s p s.size T' ((w1.iter s p).setCells w.heap.size 0 ((s.extract q s.size).data.toList.map fun x => Value.int IntKind.u8 (x.toNat : Int)))) := by
        have := turn_step (wx := w1.iter s p) (pos := p) (a := s.size) (P := pc s q s.size) hz hr hb rfl rfl rfl rfl hq (Nat.le_refl _) hpc.out
        rw [hT.out, pc_ext]
        rw [Nat.sub_self] at this
        exact hide this
      generalize (w1.iter s p).setCells w.heap.size 0 ((s.extract q s.size).data.toList.map fun x => Value.int IntKind.u8 (x.toNat : Int)) = W4 at *
      have hcv : (convert 93 9 (.slice (some ⟨w.heap.size, 0, none⟩) s.size s.size)).run Tryz.prog W4 = .ok (.string (turned s)) W4 := by
        obtain ⟨w4, e4, z4, r4, b4⟩ := hR.out
        rw [hend.out, e4]
        rw [Nat.sub_self, List.replicate_zero, List.nil_append] at r4
        exact conv_row (r4.alloc _) (hL.out.trans hsk.out) _
      have hB : Hid (Below w.heap.size w W4) := by
        obtain ⟨w4, e4, z4, r4, b4⟩ := hR.out
        rw [e4]
        exact hide (step b4 _)
      clear hR hr hL hT hpc hend hp hle h1 hb hz hsk hpp
      go_wp2
      go_ret
      exact ⟨rfl, hB.out⟩
end Go.Proofs.YtgnmkhjilecdhaaGreatDoor.T5
