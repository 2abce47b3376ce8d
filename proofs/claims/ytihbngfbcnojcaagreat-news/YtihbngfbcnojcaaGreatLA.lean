import Derived.Test.YtihbngfbcnojcaaGreatProg
import Derived.Test.YtihbngfbcnojcaaGreatL0
import Derived.WalkSpells
import Derived.WalkLawsBesides
import Derived.Deep.DeepMust
namespace Go.Proofs.YtihbngfbcnojcaaGreat
open Go.RowKit

theorem info5 : (Tryz.prog.info? 5).map (fun i => (i.zero, i.size, i.bytes)) = some (some (.int .u8 0), 1, 1) := by kernel_rfl

set_option maxRecDepth 100000 in
set_option maxHeartbeats 1000000 in
theorem appendNumber_any (base : Nat) (v : Value) (k : Nat) (xs : List Value) (n : Int) (size : Nat) (w : World) (hown : w.ownsRow base 5 1 v k xs) (hb : base ≤ w.heap.size) (hk : k ≤ 1000) (_hn0 : 0 ≤ n) (_hn : n < 4294967296) (hs : size ≤ 8) :
    Calls Tryz.prog 169 #[v, .int .i64 n, .int .i64 size] w fun e w' => ∃ v', e = .returned v' ∧ w'.ownsRow base 5 1 v' (k + size) (xs ++ be n size) ∧ Grew w v w' v' := by
  obtain ⟨i0, hi, hz0, hz1, hz2⟩ := info_parts info5
  go_enter Tryz.func169, Tryz.ntmps169
  go_wp2
  go_loopw [0, 7] (fun u i wr => ∃ (m : Nat) (ys : List Value), m ≤ size ∧ i = .int .i64 ((m : Int) - 1) ∧ wr.ownsRow base 5 1 u (k + (size - m)) (xs ++ ys) ∧ ys ++ be n m = be n size ∧ Grew w v wr u) (fun _ i _ => (intOf i + 1).toNat)
  case atStart => exact ⟨size, [], Nat.le_refl _, rfl, by simpa using hown, rfl, Grew.refl _ _⟩
  case round =>
    obtain ⟨m, ys, hm, rfl, hown2, hys, hg⟩ := hrel
    have HG : Hid (Grew w v wr u0) := hg
    have hb2 : base ≤ wr.heap.size := by have := hg.1.size; omega
    match m with
    | 0 =>
      clear hg
      go_wp2
      go_ret
      exact ⟨_, rfl, by rw [← hys]; simpa [be] using hown2, HG.out⟩
    | m + 1 =>
      have h0 : (0 : Int) ≤ (m : Int) := by omega
      have H1 : Hid (ys ++ be n (m + 1) = be n size) := hys
      clear hys hg
      go_wp2_with (first | (at_builtin; go_must (
        refine wpList_append_own_at _ rfl _ _ 46 rfl base 5 i0 (.int .u8 0) 1 1 Tryz.underlying46 hi hz0 hz1 hz2 rfl (by decide) _ _ _ rfl (hown2.alloc _) ⟨wr.heap.size, 0, none⟩ 1 1 [.int .u8 (n / 2 ^ (8 * m) % 256)] rfl rfl (cell_one_new _ _ _) (fun x hx => by simp at hx; subst hx; rfl) (by unfold maxLen; omega) (by omega) ?hbase ?_
        case hbase => simp; omega
        intro v' w4 hown4 hg4 hnil hat)))
      go_roundw
      case rel =>
        refine ⟨m, ys ++ [.int .u8 (n / 2 ^ (8 * m) % 256)], by omega, by go_num, ?_, by rw [List.append_assoc]; exact H1.out, (HG.out.alloc _).append hg4 hat⟩
        rw [show k + (size - m) = k + (size - (m + 1)) + 1 by omega, ← List.append_assoc]
        exact hown4
      case measure => simp [intOf]
/-- A text in a field: its length, its bytes, zeros. -/
def textCells (s : ByteArray) (room : Nat) : List Value := [.int .u8 (s.size : Int)] ++ Lib.strCells s ++ List.replicate (room - s.size) (.int .u8 0)

set_option maxRecDepth 100000 in
set_option maxHeartbeats 1000000 in
theorem appendText_any (base : Nat) (v : Value) (k : Nat) (xs : List Value) (s : ByteArray) (room : Nat) (w : World) (hown : w.ownsRow base 5 1 v k xs) (hb : base ≤ w.heap.size) (hk : k ≤ 1000) (hs : s.size ≤ room) (hr : room ≤ 100) :
    Calls Tryz.prog 211 #[v, .string s, .int .i64 room] w fun e w' => ∃ v', e = .returned v' ∧ w'.ownsRow base 5 1 v' (k + (1 + room)) (xs ++ textCells s room) ∧ Grew w v w' v' := by
  obtain ⟨i0, hi, hz0, hz1, hz2⟩ := info_parts info5
  have tok1 : True := trivial
  have tok2 : True := trivial
  have tok3 : True := trivial
  have HO : Hid (w.ownsRow base 5 1 v k xs) := hown
  clear hown
  go_enter Tryz.func211, Tryz.ntmps211
  go_wp2_with (first
    | (at_builtin; have _t := tok1; go_must (
        refine wpList_append_own_at _ rfl _ _ 46 rfl base 5 i0 (.int .u8 0) 1 1 Tryz.underlying46 hi hz0 hz1 hz2 rfl (by decide) _ _ _ rfl (HO.out.alloc _) ⟨w.heap.size, 0, none⟩ 1 1 [.int .u8 (s.size : Int)] rfl rfl (cell_one_new _ _ _) (fun x hx => by simp at hx; subst hx; rfl) (by unfold maxLen; omega) (by omega) ?hbase ?_
        case hbase => simp; omega
        intro v1 w1 hown1 hg1 hnil1 hat1
        have HG1 : Hid (Grew w v w1 v1) := ((Grew.refl w v).alloc _).append hg1 hat1
        have HO1 : Hid (w1.ownsRow base 5 1 v1 (k + 1) (xs ++ [.int .u8 (s.size : Int)])) := hown1
        clear tok1 hg1 hat1 hnil1 hown1))
    | (at_builtin; have _t := tok2; go_must (
        obtain ⟨v2, w2, hr2, hown2, hg2⟩ := append_text (ty := 46) Tryz.underlying46 Tryz.underlying9 hi hz0 hz1 hz2 HO1.out (by have := HG1.out.1.size; omega) s (by omega)
        refine Lib.wpList_append_run _ rfl _ _ 46 9 rfl _ _ rfl rfl v2 w2 hr2 ?_
        have HG2 : Hid (Grew w v w2 v2) := HG1.out.trans hg2
        have HO2 : Hid (w2.ownsRow base 5 1 v2 (k + 1 + s.size) (xs ++ [.int .u8 (s.size : Int)] ++ Lib.strCells s)) := hown2
        clear tok2 hr2 hg2 hown2 HG1 HO1))
    | (at_builtin; have _t := tok3; go_must (
        obtain ⟨v3, w3, hr3, hown3, hg3⟩ := append_zeros (ty := 46) Tryz.underlying46 Tryz.underlying3 hi hz0 hz1 hz2 HO2.out (by have := HG2.out.1.size; omega) (room - s.size) (by omega)
        rw [show ((room - s.size : Nat) : Int) = (room : Int) - (s.size : Int) by omega] at hr3
        refine Lib.wpList_append_run _ rfl _ _ 46 3 rfl _ _ rfl rfl v3 w3 hr3 ?_
        have HG3 : Hid (Grew w v w3 v3) := HG2.out.trans hg3
        have HO3 : Hid (w3.ownsRow base 5 1 v3 (k + 1 + s.size + (room - s.size)) (xs ++ [.int .u8 (s.size : Int)] ++ Lib.strCells s ++ List.replicate (room - s.size) (.int .u8 0))) := hown3
        clear tok3 hr3 hg3 hown3 HG2 HO2)))
  go_ret
  refine ⟨_, rfl, ?_, HG3.out⟩
  have := HO3.out
  rw [show k + 1 + s.size + (room - s.size) = k + (1 + room) by omega] at this
  simpa [textCells] using this
/-- A cell in a field: a text, its length one more if it is something. -/
def cellCells (is : Bool) (s : ByteArray) : List Value := [.int .u8 ((s.size : Int) + if is then 1 else 0)] ++ Lib.strCells s ++ List.replicate (12 - s.size) (.int .u8 0)

set_option maxRecDepth 100000 in
set_option maxHeartbeats 1000000 in
theorem appendCell_any (base : Nat) (v : Value) (k : Nat) (xs : List Value) (is : Bool) (s : ByteArray) (w : World) (hown : w.ownsRow base 5 1 v k xs) (hb : base ≤ w.heap.size) (hk : k ≤ 500) (hs : s.size ≤ 12) :
    Calls Tryz.prog 298 #[v, .agg #[.bool is, .string s]] w fun e w' => ∃ v', e = .returned v' ∧ w'.ownsRow base 5 1 v' (k + 13) (xs ++ cellCells is s) ∧ Grew w v w' v' := by
  have HO : Hid (∀ o, (w.alloc o).ownsRow base 5 1 v k xs) := fun o => hown.alloc o
  have hxl : xs.length = k := by simpa using hown.1
  have hvb : v.ownBlock ≠ some w.heap.size := fun e => by have := (hown.lt _ e).2; omega
  obtain ⟨ad, cap, rfl⟩ := owns_form hown
  clear hown
  cases is
  all_goals
    go_enter Tryz.func298, Tryz.ntmps298
    go_wp2_with (first
      | (go_at_call 211; go_must (
          refine (appendText_any base _ k xs s 12 _ (HO.out _) (by simp; omega) (by omega) hs (by omega)).mono ?_
          rintro e w1 ⟨v1, rfl, hown1, hg1⟩
          have hbx := hg1.block (k := w.heap.size) (by simp) hvb
          rw [heap_alloc_new] at hbx
          have c0 := cell_at (j := 0) hbx rfl
          obtain ⟨g1, cap1, cur1, rfl, hgb, hgh, hcap1, hcur⟩ := owns_row hown1 (by omega)
          have d0 : w1.cell? ⟨g1, k, none⟩ = some (.int .u8 (s.size : Int)) := cell_at hgh (hcur k _ (by rw [List.getElem?_append_right (by omega)]; simp [hxl, textCells]))
          have f0 := frozen_at k hgh
          have HO1 : Hid (w1.ownsRow base 5 1 (.slice (some ⟨g1, 0, none⟩) (k + 13) cap1) (k + 13) (xs ++ textCells s 12)) := hown1
          have HG1 : Hid (Grew w (.slice ad k cap) w1 (.slice (some ⟨g1, 0, none⟩) (k + 13) cap1)) := ((Grew.refl w _).alloc _).trans hg1
          clear hbx hg1 hgh hcur hown1 HO)))
  · go_ret
    exact ⟨_, rfl, by simpa [cellCells, textCells] using HO1.out, HG1.out⟩
  · go_ret
    refine ⟨_, rfl, ?_, HG1.out.store _ _⟩
    have := owns_set HO1.out k (.int .u8 ((s.size : Int) + 1))
    rw [List.set_append_right _ _ (by omega)] at this
    simpa [cellCells, textCells, hxl] using this

end Go.Proofs.YtihbngfbcnojcaaGreat
