import Derived.Test.YtihbngfbcnojcaaGreatHidC09
import Derived.Deep.DeepMust
import Derived.RegionTactic
import Derived.ChangeAlike
import Derived.BigRegion
import Derived.Defers
import Derived.Recover
import Derived.Laws.Pointers
import Derived.Lib.Strings
import Derived.Lib.Walk
import Derived.Lib.BufferWrite
import Derived.Lib.UnsafeStr
import Derived.Lib.Hide
import Derived.Laws.MakeOwn
import Derived.WalkKit
import Derived.Laws.ResultCell
namespace Go.Proofs.YtihbngfbcnojcaaGreat
open Go.RowKit

theorem zeroDisk_size : Tryz.zeroCells103.size = 27779 := by kernel_rfl
theorem zeroDisk_slice : Tryz.zeroCells103[27776]? = some (.slice none 0 0) := by kernel_rfl
theorem zeroDisk_fuse : Tryz.zeroCells103[27777]? = some (.int .i64 0) := by kernel_rfl

set_option maxHeartbeats 400000 in
theorem known_any (m : Int) (w : World) :
    Calls Tryz.prog 48 #[.int .i64 m] w fun e w' => e = .returned (.bool (m == 0 || m == 1)) ∧ w = w' := by
  go_enter Tryz.func48, Tryz.ntmps48
  go_wp2
  all_goals
    go_ret
    exact ⟨by simp [*], rfl⟩

set_option maxHeartbeats 400000 in
theorem kindOf_steal (p : Option Addr) (w : World) :
    Calls Tryz.prog 102 #[.int .i64 0, .pointer p] w fun e w' => e = .returned (.iface 234 (.pointer (some ⟨w.heap.size + 5, 0, none⟩))) ∧
      Below w.heap.size w w' ∧ w'.heap.size = w.heap.size + 6 ∧ w'.heap[w.heap.size + 1 + 1 + 1 + 1]? = some (.map #[] 0) ∧
      w'.heap[w.heap.size + 5]? = some (.cells #[.pointer p, .int .i64 0, .pointer p, .map (some (w.heap.size + 1 + 1)),
        .map (some (w.heap.size + 1 + 1 + 1)), .map (some (w.heap.size + 1 + 1 + 1 + 1)), .int .i64 0, .int .i64 0] 236 (0, 0)) := by
  have hmm := @run_makeMap Tryz.prog
  go_enter Tryz.func102, Tryz.ntmps102
  go_wp2_with (first | (go_at_call 147; refine (newCore_any _ _).mono ?_; rintro e w' ⟨rfl, hb, hs, hm⟩))
  go_ret
  refine ⟨rfl, hb.alloc (by omega) _, by simp [hs], ?_, ?_⟩
  · rw [Below.heap_alloc _ _ _ (by omega)]; exact hm
  · show (Array.push _ _)[_]? = _
    rw [Array.getElem?_push, if_pos (by omega)]

set_option maxHeartbeats 400000 in
theorem kindOf_nosteal (p : Option Addr) (w : World) :
    Calls Tryz.prog 102 #[.int .i64 1, .pointer p] w fun e w' => e = .returned (.iface 224 (.pointer (some ⟨w.heap.size + 5 + 1, 0, none⟩))) ∧
      Below w.heap.size w w' := by
  have hmm := @run_makeMap Tryz.prog
  go_enter Tryz.func102, Tryz.ntmps102
  go_wp2_with (first | (go_at_call 147; refine (newCore_any _ _).mono ?_; rintro e w' ⟨rfl, hb, hs, hm⟩))
  go_ret
  exact ⟨rfl, (hb.alloc (by omega) _).alloc (by simp; omega) _⟩

/-- A new kind Steal lies at c, its map of open transactions at m, from N on. -/
def KindAt (N : Nat) (w : World) (c : Nat) : Prop :=
  ∃ m v0 v1 v2 v3 v4, N ≤ c ∧ N ≤ m ∧ w.heap[c]? = some (.cells #[v0, v1, v2, v3, v4, .map (some m), .int .i64 0, .int .i64 0] 236 (0, 0)) ∧ w.heap[m]? = some (.map #[] 0)

set_option maxHeartbeats 400000 in
theorem startAs_steal (vb db : Nat) (D : Array Value) (w : World) (hne : vb ≠ db) (hv : w.heap[vb]? = some (.cells (volCells db 1 0 0) 126 (0, 0))) (hD : w.heap[db]? = some (.cells D 103 (0, 0))) (hDz : D.size = 27779) (hDv : D[27776]? = some (.slice none 0 0)) (hDf : D[27777]? = some (.int .i64 0)) :
    Calls Tryz.prog 82 #[.int .i64 0, .pointer (some ⟨vb, 0, none⟩)] w fun e w' => ∃ c, e = .returned (.iface 234 (.pointer (some ⟨c, 0, none⟩))) ∧ (∀ k, k < w.heap.size → k ≠ vb → k ≠ db → w'.heap[k]? = w.heap[k]?) ∧ Below 0 w w' ∧ KindAt w.heap.size w' c := by
  have c1 : w.cell? ⟨vb, 1, none⟩ = some (.int .u32 1) := cell_at hv rfl
  have HV : Hid (w.heap[vb]? = some (.cells (volCells db 1 0 0) 126 (0, 0))) := hv
  have HD : Hid (w.heap[db]? = some (.cells D 103 (0, 0)) ∧ D.size = 27779 ∧ D[27776]? = some (.slice none 0 0) ∧ D[27777]? = some (.int .i64 0)) := ⟨hD, hDz, hDv, hDf⟩
  clear hv hD hDz hDv hDf
  go_enter Tryz.func82, Tryz.ntmps82
  go_wp2_with (first
    | (go_at_call 85; go_must (
        refine (mark_any vb db 1 0 0 1 0 D w (by omega) (by omega) (by omega) (by omega) (by omega) (by omega) (by omega) (by omega) (by omega) (by omega) hne HV.out HD.out.1 HD.out.2.1 HD.out.2.2.1 HD.out.2.2.2).mono ?_
        rintro e w1 ⟨rfl, _hv1, _hd1, ho1, hb1⟩))
    | (go_at_call 102; go_must (
        refine (kindOf_steal _ _).mono ?_
        rintro e w2 ⟨rfl, hb2, hs2, hm2, hc2⟩)))
  go_ret
  have hz := hb1.size
  refine ⟨_, rfl, fun k h1 h2 h3 => (hb2.block k (by omega)).trans (ho1 k h1 h2 h3), hb1.trans (hb2.mono (by omega)), _, _, _, _, _, _, ?_, ?_, hc2, hm2⟩
  · omega
  · omega

set_option maxHeartbeats 400000 in
theorem startAs_nosteal (vb db : Nat) (D : Array Value) (w : World) (hne : vb ≠ db) (hv : w.heap[vb]? = some (.cells (volCells db 1 0 0) 126 (0, 0))) (hD : w.heap[db]? = some (.cells D 103 (0, 0))) (hDz : D.size = 27779) (hDv : D[27776]? = some (.slice none 0 0)) (hDf : D[27777]? = some (.int .i64 0)) :
    Calls Tryz.prog 82 #[.int .i64 1, .pointer (some ⟨vb, 0, none⟩)] w fun e w' => ∃ c, e = .returned (.iface 224 (.pointer (some ⟨c, 0, none⟩))) ∧ (∀ k, k < w.heap.size → k ≠ vb → k ≠ db → w'.heap[k]? = w.heap[k]?) ∧ Below 0 w w' := by
  have c1 : w.cell? ⟨vb, 1, none⟩ = some (.int .u32 1) := cell_at hv rfl
  have HV : Hid (w.heap[vb]? = some (.cells (volCells db 1 0 0) 126 (0, 0))) := hv
  have HD : Hid (w.heap[db]? = some (.cells D 103 (0, 0)) ∧ D.size = 27779 ∧ D[27776]? = some (.slice none 0 0) ∧ D[27777]? = some (.int .i64 0)) := ⟨hD, hDz, hDv, hDf⟩
  clear hv hD hDz hDv hDf
  go_enter Tryz.func82, Tryz.ntmps82
  go_wp2_with (first
    | (go_at_call 85; go_must (
        refine (mark_any vb db 1 0 0 1 1 D w (by omega) (by omega) (by omega) (by omega) (by omega) (by omega) (by omega) (by omega) (by omega) (by omega) hne HV.out HD.out.1 HD.out.2.1 HD.out.2.2.1 HD.out.2.2.2).mono ?_
        rintro e w1 ⟨rfl, _hv1, _hd1, ho1, hb1⟩))
    | (go_at_call 102; go_must (
        refine (kindOf_nosteal _ _).mono ?_
        rintro e w2 ⟨rfl, hb2⟩)))
  go_ret
  have hz := hb1.size
  exact ⟨_, rfl, fun k h1 h2 h3 => (hb2.block k (by omega)).trans (ho1 k h1 h2 h3), hb1.trans (hb2.mono (by omega))⟩

theorem KindAt.mono {N N' : Nat} {w : World} {c : Nat} (h : KindAt N w c) (hN : N' ≤ N) : KindAt N' w c := by
  obtain ⟨m, v0, v1, v2, v3, v4, h1, h2, h3, h4⟩ := h
  exact ⟨m, v0, v1, v2, v3, v4, by omega, by omega, h3, h4⟩

/-- From w to w' a new volume was laid at w's end, and the disk at db written. -/
theorem new_frame {w w' : World} {db : Nat} {o : Obj} (ho : ∀ k, k < (w.alloc o).heap.size → k ≠ w.heap.size → k ≠ db → w'.heap[k]? = (w.alloc o).heap[k]?) (hb : Below 0 (w.alloc o) w') :
    (∀ k, k < w.heap.size → k ≠ db → w'.heap[k]? = w.heap[k]?) ∧ Below 0 w w' :=
  ⟨fun k h1 h2 => (ho k (by simp; omega) (by omega) h2).trans (Below.heap_alloc _ _ _ h1), ((Below.refl _ _).alloc (Nat.zero_le _) _).trans hb⟩

set_option maxHeartbeats 400000 in
theorem firstStart_any (db : Nat) (w : World) :
    Calls Tryz.prog 76 #[.pointer (some ⟨db, 0, none⟩)] w fun e w' => e = .returned (.pointer (some ⟨w.heap.size, 0, none⟩)) ∧ w' = w.alloc (.cells (volCells db 1 0 0) 126) := by
  go_enter Tryz.func76, Tryz.ntmps76
  go_wp2
  go_ret
  exact ⟨rfl, rfl⟩

set_option maxHeartbeats 400000 in
theorem wayNew_steal (db : Nat) (D : Array Value) (w : World) (hD : w.heap[db]? = some (.cells D 103 (0, 0))) (hDz : D.size = 27779) (hDv : D[27776]? = some (.slice none 0 0)) (hDf : D[27777]? = some (.int .i64 0)) :
    Calls Tryz.prog 67 #[.int .i64 0, .pointer (some ⟨db, 0, none⟩)] w fun e w' => ∃ c, e = .returned (.iface 234 (.pointer (some ⟨c, 0, none⟩))) ∧ (∀ k, k < w.heap.size → k ≠ db → w'.heap[k]? = w.heap[k]?) ∧ Below 0 w w' ∧ KindAt w.heap.size w' c := by
  have hdw : db < w.heap.size := lt_of_block' hD
  have HD : Hid (w.heap[db]? = some (.cells D 103 (0, 0)) ∧ D.size = 27779 ∧ D[27776]? = some (.slice none 0 0) ∧ D[27777]? = some (.int .i64 0)) := ⟨hD, hDz, hDv, hDf⟩
  clear hD hDz hDv hDf
  go_enter Tryz.func67, Tryz.ntmps67
  go_wp2_with (first
    | (go_at_call 76; go_must (
        refine (firstStart_any db w).mono ?_
        rintro e w0 ⟨rfl, rfl⟩))
    | (go_at_call 82; go_must (
        refine (startAs_steal w.heap.size db D _ (by omega) (heap_alloc_new w _) ((Below.heap_alloc _ _ _ hdw).trans HD.out.1) HD.out.2.1 HD.out.2.2.1 HD.out.2.2.2).mono ?_
        rintro e w1 ⟨c, rfl, ho1, hb1, hk⟩)))
  go_ret
  obtain ⟨h1, h2⟩ := new_frame ho1 hb1
  exact ⟨_, rfl, h1, h2, hk.mono (by simp)⟩

set_option maxHeartbeats 400000 in
theorem wayNew_nosteal (db : Nat) (D : Array Value) (w : World) (hD : w.heap[db]? = some (.cells D 103 (0, 0))) (hDz : D.size = 27779) (hDv : D[27776]? = some (.slice none 0 0)) (hDf : D[27777]? = some (.int .i64 0)) :
    Calls Tryz.prog 67 #[.int .i64 1, .pointer (some ⟨db, 0, none⟩)] w fun e w' => ∃ c, e = .returned (.iface 224 (.pointer (some ⟨c, 0, none⟩))) ∧ (∀ k, k < w.heap.size → k ≠ db → w'.heap[k]? = w.heap[k]?) ∧ Below 0 w w' := by
  have hdw : db < w.heap.size := lt_of_block' hD
  have HD : Hid (w.heap[db]? = some (.cells D 103 (0, 0)) ∧ D.size = 27779 ∧ D[27776]? = some (.slice none 0 0) ∧ D[27777]? = some (.int .i64 0)) := ⟨hD, hDz, hDv, hDf⟩
  clear hD hDz hDv hDf
  go_enter Tryz.func67, Tryz.ntmps67
  go_wp2_with (first
    | (go_at_call 76; go_must (
        refine (firstStart_any db w).mono ?_
        rintro e w0 ⟨rfl, rfl⟩))
    | (go_at_call 82; go_must (
        refine (startAs_nosteal w.heap.size db D _ (by omega) (heap_alloc_new w _) ((Below.heap_alloc _ _ _ hdw).trans HD.out.1) HD.out.2.1 HD.out.2.2.1 HD.out.2.2.2).mono ?_
        rintro e w1 ⟨c, rfl, ho1, hb1⟩)))
  go_ret
  obtain ⟨h1, h2⟩ := new_frame ho1 hb1
  exact ⟨_, rfl, h1, h2⟩
end Go.Proofs.YtihbngfbcnojcaaGreat

namespace Go.Proofs.YtihbngfbcnojcaaGreat
open Go.RowKit

set_option maxHeartbeats 400000 in
theorem new_no (m : Int) (h0 : (m == 0) = false) (h1 : (m == 1) = false) (w : World) :
    Calls Tryz.prog 40 #[.int .i64 m] w fun e w' => e = .returned (.tuple #[.pointer none, .int .i64 1]) ∧ Below w.heap.size w w' := by
  go_enter Tryz.func40, Tryz.ntmps40
  go_wp2_with (first | (go_at_call 48; refine (known_any _ _).mono ?_; rintro e w' ⟨rfl, rfl⟩))
  go_ret2
  exact ⟨rfl, Below.refl _ _⟩

/-- New's frame: a disk is laid at w's end; what was there stands. -/
theorem newStore_frame {w w' : World} {o o' : Obj} (ho : ∀ k, k < (w.alloc o).heap.size → k ≠ w.heap.size → w'.heap[k]? = (w.alloc o).heap[k]?) (hb : Below 0 (w.alloc o) w') :
    Below w.heap.size w (w'.alloc o') ∧ w.heap.size < w'.heap.size := by
  have hs := hb.size
  simp at hs
  have h1 : Below w.heap.size w w' := ⟨hb.os, hb.tape, hb.output, by omega, fun k hk => (ho k (by simp; omega) (by omega)).trans (Below.heap_alloc _ _ _ hk)⟩
  exact ⟨h1.alloc (by omega) _, by omega⟩

set_option maxHeartbeats 400000 in
theorem new_nosteal (w : World) :
    Calls Tryz.prog 40 #[.int .i64 1] w fun e w' => ∃ a, e = .returned (.tuple #[.pointer (some ⟨a, 0, none⟩), .int .i64 0]) ∧ Below w.heap.size w w' ∧ a < w'.heap.size := by
  go_enter Tryz.func40, Tryz.ntmps40
  go_wp2_with (first
    | (go_at_call 48; refine (known_any _ _).mono ?_; rintro e w' ⟨rfl, rfl⟩)
    | (go_at_call 67; go_must (
        refine (wayNew_nosteal w.heap.size _ _ (heap_alloc_new w _) zeroDisk_size zeroDisk_slice zeroDisk_fuse).mono ?_
        rintro e w' ⟨c, rfl, ho, hb⟩)))
  go_ret2
  obtain ⟨h1, _⟩ := newStore_frame ho hb
  exact ⟨_, rfl, h1 , by simp⟩

/-- A store of mode Steal that was just made, in blocks from N on. -/
def StealAt (N : Nat) (w : World) (a : Nat) : Prop :=
  ∃ c x0 x1, N ≤ a ∧ w.heap[a]? = some (.cells #[x0, x1, .iface 234 (.pointer (some ⟨c, 0, none⟩))] 90 (0, 0)) ∧ KindAt N w c

theorem lt_of_some {w : World} {k : Nat} {o : Obj} (h : w.heap[k]? = some o) : k < w.heap.size := (Array.getElem?_eq_some_iff.1 h).1

theorem KindAt.kept {N : Nat} {w w' : World} {c : Nat} (h : KindAt N w c) (hk : ∀ k, N ≤ k → k < w.heap.size → w'.heap[k]? = w.heap[k]?) : KindAt N w' c := by
  obtain ⟨m, v0, v1, v2, v3, v4, hc, hm, h2, h3⟩ := h
  exact ⟨m, v0, v1, v2, v3, v4, hc, hm, by rw [hk _ hc (lt_of_some h2)]; exact h2, by rw [hk _ hm (lt_of_some h3)]; exact h3⟩
theorem StealAt.kept {N : Nat} {w w' : World} {a : Nat} (h : StealAt N w a) (hk : ∀ k, N ≤ k → k < w.heap.size → w'.heap[k]? = w.heap[k]?) : StealAt N w' a := by
  obtain ⟨c, x0, x1, ha, h1, h2⟩ := h
  exact ⟨c, x0, x1, ha, by rw [hk _ ha (lt_of_some h1)]; exact h1, h2.kept hk⟩

theorem StealAt.mono {N N' : Nat} {w : World} {a : Nat} (h : StealAt N w a) (hN : N' ≤ N) : StealAt N' w a := by
  obtain ⟨c, x0, x1, ha, h1, h2⟩ := h
  exact ⟨c, x0, x1, by omega, h1, h2.mono hN⟩

set_option maxHeartbeats 400000 in
theorem new_steal (w : World) :
    Calls Tryz.prog 40 #[.int .i64 0] w fun e w' => ∃ a, e = .returned (.tuple #[.pointer (some ⟨a, 0, none⟩), .int .i64 0]) ∧
      Below w.heap.size w w' ∧ a < w'.heap.size ∧ StealAt w.heap.size w' a := by
  go_enter Tryz.func40, Tryz.ntmps40
  go_wp2_with (first
    | (go_at_call 48; refine (known_any _ _).mono ?_; rintro e w' ⟨rfl, rfl⟩)
    | (go_at_call 67; go_must (
        refine (wayNew_steal w.heap.size _ _ (heap_alloc_new w _) zeroDisk_size zeroDisk_slice zeroDisk_fuse).mono ?_
        rintro e w' ⟨c, rfl, ho, hb, hk⟩)))
  go_ret2
  obtain ⟨h1, h2⟩ := newStore_frame ho hb
  refine ⟨_, rfl, h1, by simp, c, _, _, by omega, heap_alloc_new w' _, (hk.mono (by simp)).kept fun k _ hlt => Below.heap_alloc _ _ _ hlt⟩

set_option maxHeartbeats 400000 in
theorem refNew_yes (m : Int) (hm : m = 0 ∨ m = 1) (w : World) :
    Calls Tryz.prog 59 #[.int .i64 m] w fun e w' => e = .returned (.tuple #[.pointer (some ⟨w.heap.size, 0, none⟩), .int .i64 0]) ∧ ∃ o, w.alloc o = w' := by
  rcases hm with rfl | rfl
  all_goals
    go_enter Tryz.func59, Tryz.ntmps59
    go_wp2
    go_ret2
    exact ⟨rfl, _, rfl⟩

set_option maxHeartbeats 400000 in
theorem refNew_no (m : Int) (h0 : (m == 0) = false) (h1 : (m == 1) = false) (w : World) :
    Calls Tryz.prog 59 #[.int .i64 m] w fun e w' => e = .returned (.tuple #[.pointer none, .int .i64 1]) ∧ w = w' := by
  have h0' : (m != 0) = true := by simpa using h0
  have h1' : (m != 1) = true := by simpa using h1
  go_enter Tryz.func59, Tryz.ntmps59
  go_wp2
  go_ret2
  exact ⟨rfl, rfl⟩

theorem cell_of_heap {w : World} {b j : Nat} {cs : Array Value} {t : TypeId} {fz : Nat × Nat} {v : Value} (h : w.heap[b]? = some (.cells cs t fz)) (hv : cs[j]? = some v) : w.cell? ⟨b, j, none⟩ = some v := by
  simp [World.cell?, h, hv]
theorem frozen_of_heap {w : World} {b : Nat} (j : Nat) {cs : Array Value} {t : TypeId} (h : w.heap[b]? = some (.cells cs t (0, 0))) : w.frozen? ⟨b, j, none⟩ = false := by
  simp [World.frozen?, h]
theorem cell_new {w w' : World} {cs : Array Value} {t : TypeId} (hb : Below (w.alloc (.cells cs t)).heap.size (w.alloc (.cells cs t)) w') (j : Nat) (v : Value) (hv : cs[j]? = some v) :
    w'.cell? ⟨w.heap.size, j, none⟩ = some v := by
  rw [hb.cell (by simp)]
  exact cell_of_heap (heap_alloc_new w _) hv
theorem info69 : (Tryz.prog.info? 84).map (fun i => (i.zero, i.size, i.bytes)) = some (some (.pointer none), 1, 8) := by kernel_rfl

set_option maxHeartbeats 400000 in
theorem created_no (m : Int) (h0 : (m == 0) = false) (h1 : (m == 1) = false) (p : Option Addr) (o0 o1 o3 o4 o5 o6 o7 o8 : Value) (w : World) :
    Calls Tryz.prog 37 #[.pointer p, .agg #[o0, o1, .int .i64 m, o3, o4, o5, o6, o7, o8]] w fun e w' => e = .returned (.bool true) ∧ Below w.heap.size w w' := by
  go_enter Tryz.func37, Tryz.ntmps37
  go_wp2_with (first | (go_at_call 40; refine (new_no _ h0 h1 _).mono ?_; rintro e w' ⟨rfl, hb⟩; have hc := cell_new hb 2 (.int .i64 m) rfl) | (go_at_call 59; refine (refNew_no _ h0 h1 _).mono ?_; rintro e w' ⟨rfl, rfl⟩))
  go_ret
  exact ⟨rfl, ((Below.refl _ _).alloc (Nat.le_refl _) _).trans (hb.mono (by simp))⟩

/-- The script's world at block b: no list is held; n players, the row of pointers in new memory. -/
def WIs (b : Nat) (w : World) (v : Value) (n : Nat) (xs : List Value) : Prop :=
  w.heap[b]? = some (.cells #[.slice none 0 0, v] 77 (0, 0)) ∧ w.ownsRow (b + 1) 84 1 v n xs

theorem WIs.later {b : Nat} {w w' : World} {v : Value} {n : Nat} {xs : List Value} (h : WIs b w v n xs) (hb : Below w.heap.size w w') : WIs b w' v n xs := by
  refine ⟨by rw [hb.block _ (lt_of_some h.1)]; exact h.1, ?_⟩
  exact h.2.kept (row := none) ⟨hb.os, hb.tape, hb.output, hb.size, fun k hk _ => hb.block k hk⟩ (by cases v.ownBlock <;> simp)

theorem owns_slice {w : World} {base : Nat} {e : TypeId} {size : Nat} {v : Value} {n : Nat} {xs : List Value} (h : w.ownsRow base e size v (n + 1) xs) : ∃ g cap, v = .slice (some ⟨g, 0, none⟩) (n + 1) cap := by
  rcases h.2 with ⟨_, h⟩ | ⟨g, cap, cur, h, _⟩
  · cases h
  · exact ⟨g, cap, h⟩

theorem created_fin (R : Nat → World → Nat → Prop) (hR : ∀ N w w' a, R N w a → (∀ k, N ≤ k → k < w.heap.size → w'.heap[k]? = w.heap[k]?) → R N w' a)
    (b : Nat) (w w2 w4 : World) (v : Value) (n : Nat) (xs : List Value) (a q g cap : Nat) (hw : WIs b w v n xs) (hb2 : Below w.heap.size w w2) (hr : R w.heap.size w2 a)
    (hg4 : ((w2.alloc (.cells #[.pointer (some ⟨a, 0, none⟩), .pointer (some ⟨q, 0, none⟩), .bool false] 83)).alloc (.cells #[.pointer (some ⟨w2.heap.size, 0, none⟩)] 84)).grownBy w4 v.ownBlock)
    (hown : w4.ownsRow (b + 1) 84 1 (.slice (some ⟨g, 0, none⟩) (n + 1) cap) (n + 1) (xs ++ [.pointer (some ⟨w2.heap.size, 0, none⟩)]))
    (hb4 : w4.heap[b]? = some (.cells #[.slice none 0 0, v] 77 (0, 0))) :
    Below b w (w4.setCell ⟨b, 1, none⟩ (.slice (some ⟨g, 0, none⟩) (n + 1) cap)) ∧
      ∃ v' p q a, WIs b (w4.setCell ⟨b, 1, none⟩ (.slice (some ⟨g, 0, none⟩) (n + 1) cap)) v' (n + 1) (xs ++ [.pointer (some ⟨p, 0, none⟩)]) ∧
        (∀ k, k < w.heap.size → k ≠ b → v.ownBlock ≠ some k → (w4.setCell ⟨b, 1, none⟩ (.slice (some ⟨g, 0, none⟩) (n + 1) cap)).heap[k]? = w.heap[k]?) ∧
        w.heap.size ≤ p ∧ (w4.setCell ⟨b, 1, none⟩ (.slice (some ⟨g, 0, none⟩) (n + 1) cap)).heap[p]? = some (.cells #[.pointer (some ⟨a, 0, none⟩), .pointer (some ⟨q, 0, none⟩), .bool false] 83 (0, 0)) ∧
        R w.heap.size (w4.setCell ⟨b, 1, none⟩ (.slice (some ⟨g, 0, none⟩) (n + 1) cap)) a := by
  have hbw := lt_of_some hw.1
  have hlt := hw.2.lt
  have hs2 := hb2.size
  have old : ∀ k, k < w2.heap.size → k ≠ b → v.ownBlock ≠ some k → (w4.setCell ⟨b, 1, none⟩ (.slice (some ⟨g, 0, none⟩) (n + 1) cap)).heap[k]? = w2.heap[k]? := by
    intro k hk hkb hkv
    rw [Below.heap_setCell _ _ _ _ hkb, hg4.block k (by simp; omega) (fun e => hkv e.symm), Below.heap_alloc _ _ _ (by simp; omega), Below.heap_alloc _ _ _ hk]
  have old' : ∀ k, k < w.heap.size → k ≠ b → v.ownBlock ≠ some k → (w4.setCell ⟨b, 1, none⟩ (.slice (some ⟨g, 0, none⟩) (n + 1) cap)).heap[k]? = w.heap[k]? := by
    intro k hk hkb hkv
    rw [old k (by omega) hkb hkv, hb2.block k hk]
  refine ⟨⟨?_, ?_, ?_, ?_, fun k hk => old' k (by omega) (by omega) (fun e => by have := (hlt k e).1; omega)⟩, .slice (some ⟨g, 0, none⟩) (n + 1) cap, w2.heap.size, q, a, ⟨?_, ?_⟩, old', hs2, ?_, ?_⟩
  · show w4.os = w.os
    rw [hg4.os]; exact hb2.os
  · show w4.tape = w.tape
    rw [hg4.tape]; exact hb2.tape
  · show w4.output = w.output
    rw [hg4.output]; exact hb2.output
  · have := hg4.size
    simp [World.setCell] at this ⊢
    omega
  · rw [setCell_block _ _ _ _ _ _ hb4]; rfl
  · exact ownsRow_setCell_below hown (by simp) _
  · rw [Below.heap_setCell _ _ _ _ (by simp; omega), hg4.block w2.heap.size (by simp; omega) (fun e => by have := (hlt _ e.symm).2; omega), Below.heap_alloc _ _ _ (by simp)]
    exact heap_alloc_new _ _
  · refine hR _ _ _ _ hr fun k hN hk => old k hk (by omega) (fun e => by have := (hlt k e).2; omega)

set_option maxHeartbeats 1000000 in
theorem created_yes (R : Nat → World → Nat → Prop) (hR : ∀ N w w' a, R N w a → (∀ k, N ≤ k → k < w.heap.size → w'.heap[k]? = w.heap[k]?) → R N w' a)
    (hN : ∀ N N' w a, R N w a → N' ≤ N → R N' w a)
    (m : Int) (hm : m = 0 ∨ m = 1) (hn : ∀ w, Calls Tryz.prog 40 #[.int .i64 m] w fun e w' => ∃ a, e = .returned (.tuple #[.pointer (some ⟨a, 0, none⟩), .int .i64 0]) ∧ Below w.heap.size w w' ∧ a < w'.heap.size ∧ R w.heap.size w' a)
    (b : Nat) (o0 o1 o3 o4 o5 o6 o7 o8 : Value) (w : World) (v : Value) (n : Nat) (xs : List Value) (hw : WIs b w v n xs) (h6 : n < 6) :
    Calls Tryz.prog 37 #[.pointer (some ⟨b, 0, none⟩), .agg #[o0, o1, .int .i64 m, o3, o4, o5, o6, o7, o8]] w fun e w' => e = .returned (.bool true) ∧ Below b w w' ∧
      ∃ v' p q a, WIs b w' v' (n + 1) (xs ++ [.pointer (some ⟨p, 0, none⟩)]) ∧ (∀ k, k < w.heap.size → k ≠ b → v.ownBlock ≠ some k → w'.heap[k]? = w.heap[k]?) ∧
        w.heap.size ≤ p ∧ w'.heap[p]? = some (.cells #[.pointer (some ⟨a, 0, none⟩), .pointer (some ⟨q, 0, none⟩), .bool false] 83 (0, 0)) ∧ R w.heap.size w' a := by
  obtain ⟨i0, hi, hz0, hz1, hz2⟩ := info_parts info69
  have HN : Hid (∀ N N' w a, R N w a → N' ≤ N → R N' w a) := hN
  have HR : Hid (∀ N w w' a, R N w a → (∀ k, N ≤ k → k < w.heap.size → w'.heap[k]? = w.heap[k]?) → R N w' a) := hR
  clear hN hR
  go_enter Tryz.func37, Tryz.ntmps37
  go_wp2_with (first
    | (go_at_call 40; refine (hn _).mono ?_; rintro e w' ⟨a, rfl, hb, ha, hr⟩; have hc := cell_new hb 2 (.int .i64 m) rfl)
    | (go_at_call 59; go_must (
        refine (refNew_yes _ hm _).mono ?_
        rintro e w2 ⟨rfl, o, hw2⟩
        have hb2 : Below w.heap.size w w2 := by rw [← hw2]; exact (((Below.refl _ _).alloc (Nat.le_refl _) _).trans (hb.mono (by simp))).alloc (by have := hb.size; simp at this; omega) _
        have HL : Hid (w.heap.size < w'.heap.size ∧ w'.heap.size < w2.heap.size) := by rw [← hw2]; have := hb.size; simp at this; exact ⟨by omega, by simp⟩
        have hw3 := hw.later hb2
        have hr2 : Hid (R w.heap.size w2 a) := HN.out _ _ _ _ (HR.out _ _ w2 _ hr (fun k _ hk => by rw [← hw2]; exact Below.heap_alloc _ _ _ hk)) (by simp)
        have hcb : w2.cell? ⟨b, 1, none⟩ = some v := cell_of_heap (j := 1) hw3.1 rfl
        have HF : Hid (b < w2.heap.size) := lt_of_some hw3.1
        have hown := hw3.2
        clear hr hw2 hb hc))
    | (at_builtin; go_must (
        refine wpList_append_own _ rfl _ _ 75 rfl (b + 1) 84 i0 (.pointer none) 1 8 Tryz.underlying75 hi hz0 hz1 hz2 rfl (by decide) _ _ _ rfl ((hown.alloc _).alloc _) ⟨w2.heap.size + 1, 0, none⟩ 1 1 [.pointer (some ⟨w2.heap.size, 0, none⟩)] rfl rfl ?hnews (fun x hx => by simp at hx; subst hx; rfl) (by unfold maxLen; omega) (by omega) ?hbase ?_
        case hnews => simpa using cell_one_new (w2.alloc (.cells #[.pointer (some ⟨a, 0, none⟩), .pointer (some ⟨w'.heap.size, 0, none⟩), .bool false] 83)) (.pointer (some ⟨w2.heap.size, 0, none⟩)) 84
        case hbase => have := HF.out; simp; omega
        intro v' w4 hown4 hg4 hnil
        obtain ⟨g, cap, hv⟩ := owns_slice hown4
        subst hv
        have hbv : some b ≠ v.ownBlock := fun h => by have := (hown.lt b h.symm).1; omega
        have hb4 : w4.heap[b]? = some (.cells #[.slice none 0 0, v] 77 (0, 0)) := by
          rw [hg4.block b (by have := HF.out; simp; omega) hbv, Below.heap_alloc _ _ _ (by have := HF.out; simp; omega), Below.heap_alloc _ _ _ HF.out]; exact hw3.1
        have HB4 : Hid (w4.heap[b]? = some (.cells #[.slice none 0 0, v] 77 (0, 0))) := hb4
        have hc4 : w4.cell? ⟨b, 1, none⟩ = some v := cell_of_heap (j := 1) hb4 rfl
        have hf4 := frozen_of_heap 1 hb4
        clear hnil hb4)))
  go_ret
  exact ⟨rfl, created_fin R HR.out b w w2 w4 v n xs a w'.heap.size g cap hw hb2 hr2.out hg4 hown4 HB4.out⟩

end Go.Proofs.YtihbngfbcnojcaaGreat

namespace Go.Proofs.YtihbngfbcnojcaaGreat
open Go.RowKit

theorem created_any (m : Int) (b : Nat) (o0 o1 o3 o4 o5 o6 o7 o8 : Value) (w : World) (v : Value) (n : Nat) (xs : List Value) (hw : WIs b w v n xs) (h6 : n < 6) :
    Calls Tryz.prog 37 #[.pointer (some ⟨b, 0, none⟩), .agg #[o0, o1, .int .i64 m, o3, o4, o5, o6, o7, o8]] w fun e w' => e = .returned (.bool true) ∧ Below b w w' ∧
      (∀ k, k < w.heap.size → k ≠ b → v.ownBlock ≠ some k → w'.heap[k]? = w.heap[k]?) ∧ ∃ v' n' xs', WIs b w' v' n' xs' ∧ n' ≤ 6 := by
  by_cases h0 : m = 0
  · subst h0
    refine (created_yes (fun _ _ _ => True) (fun _ _ _ _ _ _ => trivial) (fun _ _ _ _ _ _ => trivial) 0 (.inl rfl) (fun w => (new_steal w).mono ?_) b o0 o1 o3 o4 o5 o6 o7 o8 w v n xs hw h6).mono ?_
    · rintro e w' ⟨a, h1, h2, h3, _⟩; exact ⟨a, h1, h2, h3, trivial⟩
    · rintro e w' ⟨h1, h2, v', p, q, a, h3, h4, _⟩; exact ⟨h1, h2, h4, v', _, _, h3, by omega⟩
  · by_cases h1 : m = 1
    · subst h1
      refine (created_yes (fun _ _ _ => True) (fun _ _ _ _ _ _ => trivial) (fun _ _ _ _ _ _ => trivial) 1 (.inr rfl) (fun w => (new_nosteal w).mono ?_) b o0 o1 o3 o4 o5 o6 o7 o8 w v n xs hw h6).mono ?_
      · rintro e w' ⟨a, h1, h2, h3⟩; exact ⟨a, h1, h2, h3, trivial⟩
      · rintro e w' ⟨h1, h2, v', p, q, a, h3, h4, _⟩; exact ⟨h1, h2, h4, v', _, _, h3, by omega⟩
    · refine (created_no m (by simpa using h0) (by simpa using h1) _ o0 o1 o3 o4 o5 o6 o7 o8 w).mono ?_
      rintro e w' ⟨h1, h2⟩
      exact ⟨h1, h2.mono (by have := lt_of_some hw.1; omega), fun k hk _ _ => h2.block k hk, v, n, xs, hw.later h2, by omega⟩

theorem owns_len {w : World} {base : Nat} {e : TypeId} {size : Nat} {v : Value} {n : Nat} {xs : List Value} (h : w.ownsRow base e size v n xs) : ∃ ad cap, v = .slice ad n cap := by
  rcases h.2 with ⟨h2, rfl⟩ | ⟨g, cap, cur, h2, _⟩
  · exact ⟨_, _, h2⟩
  · exact ⟨_, _, h2⟩

set_option maxHeartbeats 1000000 in
theorem step_new (m : Int) (b : Nat) (o1 o3 o4 o5 o6 o7 o8 : Value) (w : World) (v : Value) (n : Nat) (xs : List Value) (hw : WIs b w v n xs) (h6 : n < 6) :
    Calls Tryz.prog 38 #[.pointer (some ⟨b, 0, none⟩), .agg #[.int .i64 1, o1, .int .i64 m, o3, o4, o5, o6, o7, o8]] w fun e w' => e = .returned (.bool true) ∧ Below b w w' ∧
      (∀ k, k < w.heap.size → k ≠ b → v.ownBlock ≠ some k → w'.heap[k]? = w.heap[k]?) ∧ ∃ v' n' xs', WIs b w' v' n' xs' ∧ n' ≤ 6 := by
  obtain ⟨ad, cap, rfl⟩ := owns_len hw.2
  have hcb : w.cell? ⟨b, 1, none⟩ = some (.slice ad n cap) := cell_of_heap (j := 1) hw.1 rfl
  have hw' : ∀ o, WIs b (w.alloc o) (.slice ad n cap) n xs := fun o => hw.later ((Below.refl _ _).alloc (Nat.le_refl _) _)
  have hF : b < w.heap.size := lt_of_some hw.1
  go_enter Tryz.func38, Tryz.ntmps38
  go_wp2_with (first | (go_at_call 37; go_must (refine (created_any _ _ _ _ _ _ _ _ _ _ _ _ n xs (hw' _) h6).mono ?_; rintro e w' ⟨rfl, hb, hold, hx⟩)))
  go_ret
  refine ⟨rfl, ((Below.refl _ _).alloc (by omega) _).trans hb, fun k hk h1 h2 => ?_, hx⟩
  rw [hold k (by simp; omega) h1 h2]; exact Below.heap_alloc _ _ _ hk

set_option maxHeartbeats 1000000 in
theorem step_many (b : Nat) (o1 o2 o3 o4 o5 o6 o7 o8 : Value) (w : World) (v : Value) (n : Nat) (xs : List Value) (hw : WIs b w v n xs) (h6 : (6 : Int) ≤ (n : Int)) :
    Calls Tryz.prog 38 #[.pointer (some ⟨b, 0, none⟩), .agg #[.int .i64 1, o1, o2, o3, o4, o5, o6, o7, o8]] w fun e w' => e = .returned (.bool true) ∧ Below w.heap.size w w' := by
  obtain ⟨ad, cap, rfl⟩ := owns_len hw.2
  have hcb : w.cell? ⟨b, 1, none⟩ = some (.slice ad n cap) := cell_of_heap (j := 1) hw.1 rfl
  have hF : b < w.heap.size := lt_of_some hw.1
  go_enter Tryz.func38, Tryz.ntmps38
  go_wp2
  go_ret
  exact ⟨rfl, (Below.refl _ _).alloc (Nat.le_refl _) _⟩

set_option maxHeartbeats 1000000 in
theorem step_low (k : Int) (h1 : (k == 1) = false) (h11 : (k == 11) = false) (h2 : k < 2) (p : Option Addr) (o1 o2 o3 o4 o5 o6 o7 o8 : Value) (w : World) :
    Calls Tryz.prog 38 #[.pointer p, .agg #[.int .i64 k, o1, o2, o3, o4, o5, o6, o7, o8]] w fun e w' => e = .returned (.bool true) ∧ Below w.heap.size w w' := by
  go_enter Tryz.func38, Tryz.ntmps38
  go_wp2
  go_ret
  exact ⟨rfl, (Below.refl _ _).alloc (Nat.le_refl _) _⟩

theorem step_any (k m : Int) (hk : k ≤ 1) (b : Nat) (o1 o3 o4 o5 o6 o7 o8 : Value) (w : World) (v : Value) (n : Nat) (xs : List Value) (hw : WIs b w v n xs) (h6 : n ≤ 6) :
    Calls Tryz.prog 38 #[.pointer (some ⟨b, 0, none⟩), .agg #[.int .i64 k, o1, .int .i64 m, o3, o4, o5, o6, o7, o8]] w fun e w' => e = .returned (.bool true) ∧ Below b w w' ∧
      (∀ k, k < w.heap.size → k ≠ b → v.ownBlock ≠ some k → w'.heap[k]? = w.heap[k]?) ∧ ∃ v' n' xs', WIs b w' v' n' xs' ∧ n' ≤ 6 := by
  have hF : b < w.heap.size := lt_of_some hw.1
  by_cases h1 : k = 1
  · subst h1
    by_cases h : n < 6
    · exact step_new m b o1 o3 o4 o5 o6 o7 o8 w v n xs hw h
    · refine (step_many b o1 (.int .i64 m) o3 o4 o5 o6 o7 o8 w v n xs hw (by omega)).mono ?_
      rintro e w' ⟨h1, h2⟩
      exact ⟨h1, h2.mono (by omega), fun k hk _ _ => h2.block k hk, v, n, xs, hw.later h2, h6⟩
  · refine (step_low k (by simpa using h1) (by simp; omega) (by omega) _ o1 (.int .i64 m) o3 o4 o5 o6 o7 o8 w).mono ?_
    rintro e w' ⟨h1, h2⟩
    exact ⟨h1, h2.mono (by omega), fun k hk _ _ => h2.block k hk, v, n, xs, hw.later h2, h6⟩

set_option maxHeartbeats 1000000 in
theorem looks_none (b : Nat) (w : World) (hc : w.cell? ⟨b, 0, none⟩ = some (.slice none 0 0)) :
    Calls Tryz.prog 39 #[.pointer (some ⟨b, 0, none⟩)] w fun e w' => e = .returned (.bool true) ∧ w = w' := by
  go_enter Tryz.func39, Tryz.ntmps39
  go_wp2
  go_loop [3] (fun i => i = .int .i64 0) (fun _ => 0)
  case atStart => rfl
  case round =>
    subst hrel
    go_wp2
    go_ret
    exact ⟨rfl, rfl⟩
end Go.Proofs.YtihbngfbcnojcaaGreat

namespace Go.Proofs.YtihbngfbcnojcaaGreat
open Go.RowKit

theorem meth_begin (c : Nat) (w : World) : (method 476 234 (.pointer (some ⟨c, 0, none⟩)) "Begin").run Tryz.prog w = .ok (273, .pointer (some ⟨c, 0, none⟩)) w := by kernel_rfl

set_option maxRecDepth 100000 in
set_option maxHeartbeats 1000000 in
theorem coreBegin_first (N c m : Nat) (w : World) (v0 v1 v2 v3 v4 : Value) (hc : N ≤ c) (hm : N ≤ m) (hN : N ≤ w.heap.size)
    (h2 : w.heap[c]? = some (.cells #[v0, v1, v2, v3, v4, .map (some m), .int .i64 0, .int .i64 0] 236 (0, 0))) (h3 : w.heap[m]? = some (.map #[] 0)) :
    Calls Tryz.prog 273 #[.pointer (some ⟨c, 0, none⟩)] w fun e w' => e = .returned (.tuple #[.int .i64 1, .int .i64 0]) ∧ Below N w w' := by
  have c5 : w.cell? ⟨c, 5, none⟩ = some (.map (some m)) := cell_of_heap (j := 5) h2 rfl
  have c6 : w.cell? ⟨c, 6, none⟩ = some (.int .i64 0) := cell_of_heap (j := 6) h2 rfl
  have c7 : w.cell? ⟨c, 7, none⟩ = some (.int .i64 0) := cell_of_heap (j := 7) h2 rfl
  have f6 := frozen_of_heap 6 h2
  have f7 := frozen_of_heap 7 h2
  have hmm := @run_makeMap Tryz.prog
  have hlen := run_len_map (P := Tryz.prog) (w := w) Tryz.underlying227 3 h3
  have H2 : Hid (w.heap[c]? = some (.cells #[v0, v1, v2, v3, v4, .map (some m), .int .i64 0, .int .i64 0] 236 (0, 0))) := h2
  have hcm : m ≠ c := by rintro rfl; rw [h3] at h2; cases h2
  clear h2
  go_enter Tryz.func273, Tryz.ntmps273
  go_wp2
  generalize hw1 : (w.setCell ⟨c, 7, none⟩ (.int .i64 1)).setCell ⟨c, 6, none⟩ (.int .i64 1) = w1
  have hs : (w.setCell ⟨c, 7, none⟩ (.int .i64 1)).heap[c]? = _ := setCell_block w c 7 (.int .i64 1) _ 236 H2.out
  have hs2 : w1.heap[c]? = some (.cells #[v0, v1, v2, v3, v4, .map (some m), .int .i64 1, .int .i64 1] 236 (0, 0)) := by rw [← hw1]; exact setCell_block _ c 6 (.int .i64 1) _ 236 hs
  have hm1 : w1.heap[m]? = some (.map #[] 0) := by rw [← hw1, Below.heap_setCell _ _ _ _ hcm, Below.heap_setCell _ _ _ _ hcm]; exact h3
  have hb1 : Hid (Below N w w1) := by rw [← hw1]; exact ((Below.refl _ _).setCell hc _).setCell hc _
  have e5 : w1.cell? ⟨c, 5, none⟩ = some (.map (some m)) := cell_of_heap hs2 rfl
  have e6 : w1.cell? ⟨c, 6, none⟩ = some (.int .i64 1) := cell_of_heap hs2 rfl
  have hl1 : c < w1.heap.size := lt_of_some hs2
  have hl2 : m < w1.heap.size := lt_of_some hm1
  clear hs hs2 hw1 c5 c6 c7 f6 f7 h3 hlen H2
  have hup : ∀ o1 o2 v, (Instr.mapUpdate 227 (.map (some m)) (.int .i64 1) v).run Tryz.prog ((w1.alloc o1).alloc o2).drew = .ok () (putMap ((w1.alloc o1).alloc o2).drew m #[{ key := .int .i64 1, val := v, born := 0 }] 1) :=
    fun o1 o2 v => run_mapUpdate_new (P := Tryz.prog) (w := ((w1.alloc o1).alloc o2).drew) (b := m) (es := #[]) (clock := 0) (key := .int .i64 1) Tryz.underlying227 Tryz.underlying3 (by simp [MapKept.IsKey]) (by show ((w1.alloc o1).alloc o2).heap[m]? = _; rw [Below.heap_alloc _ _ _ (by simp; omega), Below.heap_alloc _ _ _ hl2]; exact hm1) rfl v
  have e6' : ∀ o1 o2 es cl, (putMap ((w1.alloc o1).alloc o2).drew m es cl).cell? ⟨c, 6, none⟩ = some (.int .i64 1) := by
    intro o1 o2 es cl
    rw [World.cell?_of_block (w := w1) (by show (putMap ((w1.alloc o1).alloc o2).drew m es cl).heap[c]? = _; rw [putMap_other _ _ _ _ (Ne.symm hcm)]; show ((w1.alloc o1).alloc o2).heap[c]? = _; rw [Below.heap_alloc _ _ _ (by simp; omega), Below.heap_alloc _ _ _ hl1])]
    exact e6
  clear hm1
  go_region
  go_wp2
  go_ret2
  exact ⟨rfl, below_putMap (((hb1.out.alloc (Nat.le_trans hN hb1.out.size) _).alloc (by have := hb1.out.size; simp; omega) _).drew) hm _ _⟩

set_option maxHeartbeats 400000 in
theorem dead_not (a t : Nat) (v : Value) (w : World) (ca : w.cell? ⟨a, 2, none⟩ = some (.iface t v)) :
    Calls Tryz.prog 41 #[.pointer (some ⟨a, 0, none⟩)] w fun e w' => e = .returned (.bool false) ∧ w = w' := by
  go_enter Tryz.func41, Tryz.ntmps41
  go_wp2
  go_ret
  exact ⟨rfl, rfl⟩

set_option maxRecDepth 100000 in
set_option maxHeartbeats 1000000 in
theorem begin_steal (N : Nat) (a : Nat) (w : World) (h : StealAt N w a) (hN : N ≤ w.heap.size) :
    Calls Tryz.prog 19 #[.pointer (some ⟨a, 0, none⟩)] w fun e w' => e = .returned (.tuple #[.int .i64 1, .int .i64 0]) ∧ Below N w w' := by
  obtain ⟨c, x0, x1, ha, h1, m, v0, v1, v2, v3, v4, hc, hm, h2, h3⟩ := h
  have ca : w.cell? ⟨a, 2, none⟩ = some (.iface 234 (.pointer (some ⟨c, 0, none⟩))) := cell_of_heap (j := 2) h1 rfl
  have hme := meth_begin
  have K := coreBegin_first N c m w v0 v1 v2 v3 v4 hc hm hN h2 h3
  clear h1 h2 h3
  go_enter Tryz.func19, Tryz.ntmps19
  go_wp2_with (first | (go_at_call 41; refine (dead_not _ _ _ _ ca).mono ?_; rintro e w' ⟨rfl, rfl⟩) | (go_at_call 273; refine K.mono ?_; rintro e w' ⟨rfl, hb⟩))
  go_ret2
  exact ⟨rfl, hb⟩
end Go.Proofs.YtihbngfbcnojcaaGreat

namespace Go.Proofs.YtihbngfbcnojcaaGreat
open Go.RowKit

set_option maxRecDepth 100000 in
set_option maxHeartbeats 1000000 in
theorem catch_idle (p s : Value) (w : World) :
    CallsD Tryz.prog 100 #[p, s] .returning w fun e u' w' => e = .returned (.tuple #[]) ∧ u' = .returning ∧ w' = w := by
  refine callsD_of_wpS Tryz.func100 rfl fun c₀ cs hu => ?_
  apply wpS_seq
  apply wpS_seq
  apply wpS_region
  simp [wpOpsS, go_sem, recoverD, hu, Tryz.ntmps100, Exit.thenS]
  refine wpS_of_wp ?_
  go_wp2
  cases c₀
  simp_all [bodyPostS, results, Tryz.results100, Exit.thenS]

set_option maxRecDepth 100000 in
set_option maxHeartbeats 1000000 in
/-- What is done comes to its end. -/
theorem caught_quiet (sb : Nat) (f : Nat) (cap : Array Value) (w : World) (R : Int → World → Prop)
    (KD : ∀ o1 o2, Calls Tryz.prog f cap ((w.alloc o1).alloc o2) fun e w' => ∃ x, e = .returned (.int .i64 x) ∧ w'.heap[w.heap.size + 1]? = some o2 ∧ R x w')
    (hen : ∀ args w, (callFunc f args).run Tryz.prog w = .ok (.enter f args) w) :
    Calls Tryz.prog 72 #[.pointer (some ⟨sb, 0, none⟩), .func (.func f) #[] cap] w fun e w' => ∃ x w1, e = .returned (.int .i64 x) ∧ R x w1 ∧ w' = w1.setCell ⟨w.heap.size + 1, 0, none⟩ (.int .i64 x) := by
  have hmf : ∀ (fn : Fn) (first cap : Array Value) (w : World), (Instr.makeFunc fn first cap).run Tryz.prog w = .ok (.func fn first cap) w := fun _ _ _ _ => rfl
  go_enter_defers Tryz.func72, Tryz.ntmps72
  have HKD := @id (Hid (∀ o1 o2, Calls _ _ _ (World.alloc _ o2) _)) KD
  clear KD
  go_wp2
  refine (HKD.out _ _).mono ?_
  rintro e w1 ⟨x, rfl, hn, hR⟩
  have HR : Hid (R x w1) := hR
  have x0 := cell_at (j := 0) hn rfl
  have y0 := frozen_at 0 hn
  have HN := @id (Hid _) hn
  clear hn hR
  go_wp2
  have hc : (w1.setCell ⟨w.heap.size + 1, 0, none⟩ (.int .i64 x)).heap[w.heap.size + 1]? = some (.cells #[.int .i64 x] 29 (0, 0)) := setCell_at w1 _ 0 _ _ _ HN.out
  have hc0 := cell_at (j := 0) hc rfl
  refine leaves_cons (f := 100) (args := #[.pointer (some ⟨w.heap.size + 1, 0, none⟩), .pointer (some ⟨w.heap.size, 0, none⟩)]) (by simp) (by simp [go_sem]) ?_
  refine (catch_idle _ _ _).mono ?_
  rintro e u' w'' ⟨rfl, rfl, rfl⟩
  refine ⟨.int .i64 x, ?_, x, w1, rfl, HR.out, rfl⟩
  simp [results, Tryz.results72, go_sem, hc0]

set_option maxHeartbeats 1000000 in
theorem alive_quiet (sb : Nat) (t : TypeId) (y : Value) (f : Nat) (cap : Array Value) (w : World) (R : Int → World → Prop) (hs : w.cell? ⟨sb, 2, none⟩ = some (.iface t y))
    (KD : ∀ o1 o2, Calls Tryz.prog f cap ((w.alloc o1).alloc o2) fun e w' => ∃ x, e = .returned (.int .i64 x) ∧ w'.heap[w.heap.size + 1]? = some o2 ∧ R x w')
    (hen : ∀ args w, (callFunc f args).run Tryz.prog w = .ok (.enter f args) w) :
    Calls Tryz.prog 53 #[.pointer (some ⟨sb, 0, none⟩), .func (.func f) #[] cap] w fun e w' => ∃ x w1, e = .returned (.int .i64 x) ∧ R x w1 ∧ w' = w1.setCell ⟨w.heap.size + 1, 0, none⟩ (.int .i64 x) := by
  have KC := caught_quiet sb f cap w R KD hen
  have HKC := @id (Hid (Calls _ _ _ w _)) KC
  clear KC KD hen
  go_enter Tryz.func53, Tryz.ntmps53
  go_wp2_with (first
    | (go_at_call 41; refine (dead_not _ _ _ _ hs).mono ?_; rintro e w' ⟨rfl, rfl⟩)
    | (go_at_call 72; go_must (refine HKC.out.mono ?_; rintro e w2 ⟨x, w1, rfl, hR, rfl⟩)))
  go_ret
  exact ⟨x, w1, rfl, hR, rfl⟩
end Go.Proofs.YtihbngfbcnojcaaGreat

namespace Go.Proofs.YtihbngfbcnojcaaGreat
open Go.RowKit

/-- The kinds of stores. -/
def kindT : Bool → TypeId
  | true => 234
  | false => 224
theorem meth_begin_no (c : Nat) (w : World) : (method 476 224 (.pointer (some ⟨c, 0, none⟩)) "Begin").run Tryz.prog w = .ok (273, .pointer (some ⟨c, 0, none⟩)) w := by kernel_rfl

set_option maxRecDepth 100000 in
set_option maxHeartbeats 1000000 in
/-- (*Store).Begin of a live store, of whichever kind. -/
theorem storeBegin_step {w : World} {s : Sv} {q : Nat} (h : Lies w s) (g : Good s) (hh : Held s q) (hbg : s.begun ≤ 1000) (htx : s.tx ((s.begun : Int) + 1) = none) (k : Bool) (a : Nat) (ca : w.cell? ⟨a, 2, none⟩ = some (.iface (kindT k) (.pointer (some ⟨s.kb, 0, none⟩)))) :
    Calls Tryz.prog 19 #[.pointer (some ⟨a, 0, none⟩)] w (fun e w' => ∃ x y, e = .returned (.tuple #[x, y]) ∧ Began w s q (.returned (.tuple #[x, y])) w') := by
  have K : Calls Tryz.prog 273 #[.pointer (some ⟨s.kb, 0, none⟩)] w (fun e w' => ∃ x y, e = .returned (.tuple #[x, y]) ∧ Began w s q (.returned (.tuple #[x, y])) w') := by
    refine (coreBegin_step h g hh hbg htx).mono ?_
    rintro e w' hb
    rcases hb with ⟨h1, rfl, h2⟩ | ⟨h1, h2, rfl, h3⟩ | ⟨h1, h2, rfl, h3⟩
    · exact ⟨_, _, rfl, .inl ⟨h1, rfl, h2⟩⟩
    · exact ⟨_, _, rfl, .inr (.inl ⟨h1, h2, rfl, h3⟩)⟩
    · exact ⟨_, _, rfl, .inr (.inr ⟨h1, h2, rfl, h3⟩)⟩
  have HK := @id (Hid (Calls _ _ _ w _)) K
  generalize Began w s q = B at HK ⊢
  clear h g hh K
  cases k with
  | true =>
    simp only [kindT] at ca
    have hme := meth_begin
    go_enter Tryz.func19, Tryz.ntmps19
    go_wp2_with (first
      | (go_at_call 41; refine (dead_not _ _ _ _ ca).mono ?_; rintro e w' ⟨rfl, rfl⟩)
      | (go_at_call 273; go_must (refine HK.out.mono ?_; rintro e w' ⟨x, y, rfl, hb⟩; have HB : Hid (B (.returned (.tuple #[x, y])) w') := hb; clear hb)))
    go_ret2
    exact ⟨x, y, rfl, HB.out⟩
  | false =>
    simp only [kindT] at ca
    have hme := meth_begin_no
    go_enter Tryz.func19, Tryz.ntmps19
    go_wp2_with (first
      | (go_at_call 41; refine (dead_not _ _ _ _ ca).mono ?_; rintro e w' ⟨rfl, rfl⟩)
      | (go_at_call 273; go_must (refine HK.out.mono ?_; rintro e w' ⟨x, y, rfl, hb⟩; have HB : Hid (B (.returned (.tuple #[x, y])) w') := hb; clear hb)))
    go_ret2
    exact ⟨x, y, rfl, HB.out⟩
end Go.Proofs.YtihbngfbcnojcaaGreat

namespace Go.Proofs.YtihbngfbcnojcaaGreat
open Go.RowKit

theorem infoByte : (Tryz.prog.info? 5).map (fun i => (i.zero, i.size, i.bytes)) = some (some (.int .u8 0), 1, 1) := by kernel_rfl

set_option maxHeartbeats 4000000 in
set_option maxRecDepth 100000 in
/-- A fresh string of the same bytes. -/
theorem liteClone_any (s : ByteArray) (w : World) (hlim : s.size ≤ 281474976710656) :
    Calls Tryz.prog 70 #[.string s] w fun e w' => e = .returned (.string s) ∧ Below w.heap.size w w' := by
  by_cases h0 : s.size = 0
  · have hs : s = ⟨#[]⟩ := ByteArray.ext (Array.eq_empty_of_size_eq_zero h0)
    subst hs
    go_enter Tryz.func70, Tryz.ntmps70
    go_wp2
    go_ret
    exact ⟨rfl, Below.refl _ _⟩
  · obtain ⟨i0, hi, hz0, hz1, hz2⟩ := info_parts infoByte
    have hinfo : (Tryz.prog.info? 5).map (·.size) = some 1 := by rw [hi]; simp [hz1]
    have hco : Tryz.prog.cellsOf 5 = 1 := by simp [Program.cellsOf, hi, hz1]
    obtain ⟨M, hM⟩ : ∃ M, M = madeCells (Value.int .u8 0).cells (((s.size : Nat) : Int).toNat * i0.size) := ⟨_, rfl⟩
    have hMs : M.size = s.size := by rw [hM, size_madeCells, hz1]; simp
    have hmk : ∀ W : World, (Instr.makeSlice 46 (.int .i64 (s.size : Int)) (.int .i64 (s.size : Int))).run Tryz.prog W = .ok (.slice (some ⟨W.heap.size, 0, none⟩) s.size s.size) (W.alloc (.cells M 5)) := fun W => by
      have h := run_make (P := Tryz.prog) W 46 5 i0 (.int .u8 0) Tryz.underlying46 hi hz0 .i64 .i64 (s.size : Int) (s.size : Int) (by omega) (by omega) (by rw [hz2]; omega) (by omega)
      rw [← hM] at h
      simpa using h
    clear hM
    have hcp := Lib.run_copy_row_string (P := Tryz.prog) (w.alloc (.cells M 5)) 46 9 3 5 w.heap.size 0 s.size s.size s M 5 Tryz.underlying46 hinfo (heap_alloc_new w _) (Nat.le_refl _) (by omega)
    obtain ⟨Y, hY⟩ : ∃ Y, Y = (M.toList.take 0 ++ Lib.byteCells s.data.toList ++ M.toList.drop (0 + s.size)).toArray := ⟨_, rfl⟩
    rw [← hY] at hcp
    have hYl : Y.toList = Lib.byteCells s.data.toList := by
      rw [hY, List.toList_toArray, List.take_zero, List.nil_append, List.drop_of_length_le (by rw [Array.length_toList]; omega), List.append_nil]
    have hYs : Y.size = s.size := by rw [← Array.length_toList, hYl, Lib.byteCells_length, ← Lib.size_eq]
    have hgY : ((w.alloc (.cells M 5)).setRow w.heap.size Y).heap[w.heap.size]? = some (.cells Y 5 (0, 0)) := setRow_heap _ _ M _ 5 (0, 0) (heap_alloc_new w _)
    have hne : s.data.toList ≠ [] := fun e => h0 (by rw [Lib.size_eq, e]; rfl)
    have hUS := Lib.run_unsafeString_row (P := Tryz.prog) ((w.alloc (.cells M 5)).setRow w.heap.size Y) 157 3 9 5 Tryz.underlying157 hco w.heap.size Y.size (by unfold World.shape?; rw [hgY]) s.data.toList hne (by rw [← Lib.size_eq]; omega) (by rw [← Lib.size_eq]; omega)
      (fun j x hx => Lib.cells_of_row hgY Y.size j _ (by rw [List.take_of_length_le (by rw [Array.length_toList]; exact Nat.le_refl _), hYl]; simp [Lib.byteCells, hx]))
    rw [← Lib.size_eq] at hUS
    clear hY
    go_enter Tryz.func70, Tryz.ntmps70
    go_wp2
    go_ret
    have hb1 : Below w.heap.size w (w.alloc (.cells M 5)) := (Below.refl _ w).alloc (Nat.le_refl _) _
    have hb2 : Below w.heap.size (w.alloc (.cells M 5)) ((w.alloc (.cells M 5)).setRow w.heap.size Y) := ⟨rfl, rfl, rfl, by simp, fun k hk => setRow_other _ _ _ _ (by omega)⟩
    exact ⟨rfl, Lib.below_freeze (hb1.trans hb2) (p := ⟨w.heap.size, 0, none⟩) (Nat.le_refl _) _⟩

set_option maxHeartbeats 400000 in
theorem clone_any (s : ByteArray) (w : World) (hlim : s.size ≤ 281474976710656) :
    Calls Tryz.prog 45 #[.string s] w fun e w' => e = .returned (.string s) ∧ Below w.heap.size w w' := by
  have K := liteClone_any s w hlim
  go_enter Tryz.func45, Tryz.ntmps45
  go_wp2_with (first | (go_at_call 70; refine K.mono ?_; rintro e w' ⟨rfl, hb⟩))
  go_ret
  exact ⟨rfl, hb⟩
end Go.Proofs.YtihbngfbcnojcaaGreat

namespace Go.Proofs.YtihbngfbcnojcaaGreat
open Go.RowKit

/-- Nothing stands against reading a key. -/
def Free (s : Sv) (t : Int) (key : ByteArray) : Prop := nameErr (s.tx t).isSome key = 0 ∧ ∀ u x, s.tx u = some x → u ≠ t → holdOf x.H key ≠ 2
/-- What Get answers where something does. -/
def readErr (s : Sv) (t : Int) (key : ByteArray) : Int := if nameErr (s.tx t).isSome key = 0 then 8 else nameErr (s.tx t).isSome key

theorem mayRead_free {w : World} {s : Sv} {q : Nat} (h : Lies w s) (g : Good s) (hh : Held s q) (t : Int) (ht : IsInt t) (key : ByteArray) (hks : key.size ≤ 140737488355328) (hf : Free s t key) :
    Calls Tryz.prog 279 #[.pointer (some ⟨s.kb, 0, none⟩), .int .i64 t, .string key] w fun e w' => e = .returned (.int .i64 0) ∧ Goes w w' s s := by
  refine (mayRead_step h g hh t ht key hks).mono ?_
  rintro e w' ⟨c, rfl, h1, h2⟩
  refine ⟨?_, h1⟩
  rcases h2 with ⟨h2, _⟩ | ⟨_, m, ⟨_, _, _, h4⟩, rfl⟩
  · exact absurd hf.1 h2
  · by_cases hm : m = 2
    · subst hm
      rcases h4 with h4 | ⟨u, x, h5, h6, h7⟩
      · omega
      · exact absurd h7 (hf.2 u x h5 h6)
    · rw [if_neg hm]

theorem mayRead_barred {w : World} {s : Sv} {q : Nat} (h : Lies w s) (g : Good s) (hh : Held s q) (t : Int) (ht : IsInt t) (key : ByteArray) (hks : key.size ≤ 140737488355328) (hf : ¬ Free s t key) :
    Calls Tryz.prog 279 #[.pointer (some ⟨s.kb, 0, none⟩), .int .i64 t, .string key] w fun e w' => e = .returned (.int .i64 (readErr s t key)) ∧ Goes w w' s s := by
  refine (mayRead_step h g hh t ht key hks).mono ?_
  rintro e w' ⟨c, rfl, h1, h2⟩
  refine ⟨?_, h1⟩
  unfold readErr
  rcases h2 with ⟨h2, rfl⟩ | ⟨h2, m, ⟨h5, h6, h3, h4⟩, rfl⟩
  · rw [if_neg h2]
  · rw [if_pos h2]
    have : m = 2 := Classical.byContradiction fun hm => hf ⟨h2, fun u x hx hu hc => by have := h3 u x hx hu; omega⟩
    rw [if_pos this]
theorem readErr_ne (s : Sv) (t : Int) (key : ByteArray) : readErr s t key ≠ 0 := by
  unfold readErr
  split
  · omega
  · assumption

theorem meth_mayRead (c : Nat) (w : World) : (method 476 234 (.pointer (some ⟨c, 0, none⟩)) "MayRead").run Tryz.prog w = .ok (279, .pointer (some ⟨c, 0, none⟩)) w := by kernel_rfl
theorem meth_mayRead_no (c : Nat) (w : World) : (method 476 224 (.pointer (some ⟨c, 0, none⟩)) "MayRead").run Tryz.prog w = .ok (279, .pointer (some ⟨c, 0, none⟩)) w := by kernel_rfl
theorem meth_read (c : Nat) (w : World) : (method 476 234 (.pointer (some ⟨c, 0, none⟩)) "Read").run Tryz.prog w = .ok (302, .pointer (some ⟨c, 0, none⟩)) w := by kernel_rfl
theorem meth_read_no (c : Nat) (w : World) : (method 476 224 (.pointer (some ⟨c, 0, none⟩)) "Read").run Tryz.prog w = .ok (281, .pointer (some ⟨c, 0, none⟩)) w := by kernel_rfl
end Go.Proofs.YtihbngfbcnojcaaGreat

namespace Go.Proofs.YtihbngfbcnojcaaGreat
open Go.RowKit

abbrev Writes := List (ByteArray × Bool × ByteArray)
def writeCells (ws : Writes) : List Value := ws.flatMap fun p => [.string p.1, .bool p.2.1, .string p.2.2]
theorem writeCells_length (ws : Writes) : (writeCells ws).length = ws.length * 3 := by
  induction ws with
  | nil => rfl
  | cons p r ih => simp only [writeCells, List.flatMap_cons, List.length_append, List.length_cons, List.length_nil] at *; omega
theorem writeCells_append (ps qs : Writes) : writeCells (ps ++ qs) = writeCells ps ++ writeCells qs := by simp [writeCells]
theorem writeCells_at : ∀ (ws : Writes) (i : Nat) (p : ByteArray × Bool × ByteArray), ws[i]? = some p → (writeCells ws)[i * 3]? = some (.string p.1) ∧ (writeCells ws)[i * 3 + 1]? = some (.bool p.2.1) ∧ (writeCells ws)[i * 3 + 2]? = some (.string p.2.2)
  | [], i, p, h => by simp at h
  | q :: r, 0, p, h => by simp at h; subst h; simp [writeCells]
  | q :: r, i + 1, p, h => by
    have := writeCells_at r i p (by simpa using h)
    simp only [writeCells, List.flatMap_cons, Nat.succ_mul, List.cons_append, List.nil_append, Nat.add_assoc] at *
    exact this

/-- What a transaction made of a key. -/
def wroteL : Writes → ByteArray → Option (Bool × ByteArray)
  | [], _ => none
  | p :: r, k => if p.1 = k then some p.2 else wroteL r k

/-- Two results: a row in a cell of its own, and a plain one. -/
theorem results_row_tmp {P : Program} {fn : Func} {p u : Tmp} {ty : TypeId} (h : fn.results = #[.cell p ty, .tmp u]) (tmps : Array Value) (w : World) (g : Nat) (t : TypeId) (cs : Array Value) (fr : Nat × Nat) (d : TypeDesc) (v : Value)
    (hp : tmps.getD p undef = .pointer (some ⟨g, 0, none⟩)) (hg : w.heap[g]? = some (.cells cs t fr))
    (hu : P.underlying ty = some d) (hd : (match d with | .struct _ | .array _ _ => true | _ => false) = true) (hi : (P.info? ty).map (·.size) = some cs.size) (hv : tmps.getD u undef = v) :
    (results fn tmps).run P w = .ok (.tuple #[.agg cs, v]) w := by
  rw [results_cell_tmp h, hp, hv]
  simp [asAddr, run_loadVar_row w g t ty cs fr d hg hu hd hi]

set_option maxRecDepth 100000 in
set_option maxHeartbeats 1000000 in
theorem wrote_any (b o : Nat) (vw : Value) (ws : Writes) (key : ByteArray) (w : World) (hc : w.cell? ⟨b, o + 3, none⟩ = some vw) (hown : w.ownsRow 0 206 3 vw ws.length (writeCells ws)) (hlen : ws.length ≤ 100000) :
    Calls Tryz.prog 135 #[.pointer (some ⟨b, o, none⟩), .string key] w fun e w' => e = .returned (.tuple #[.agg #[.bool ((wroteL ws key).getD (false, ByteArray.empty)).1, .string ((wroteL ws key).getD (false, ByteArray.empty)).2], .bool (wroteL ws key).isSome]) ∧ Below w.heap.size w w' := by
  obtain ⟨p, cap, rfl, hmax⟩ := owns_slice' hown
  clear hmax
  have hbw : b < w.heap.size := World.block_lt_of_cell? w _ hc
  have HX : Hid (∀ w1, (w.alloc (.cells #[.bool false, .string ByteArray.empty] 38)) = w1 → w1.cell? ⟨b, o + 3, none⟩ = some (.slice p ws.length cap) ∧ w1.ownsRow 0 206 3 (.slice p ws.length cap) ws.length (writeCells ws) ∧ w1.heap[w.heap.size]? = some (.cells #[.bool false, .string ByteArray.empty] 38 (0, 0)) ∧ Below w.heap.size w w1) := by
    rintro w1 rfl
    exact ⟨(((Below.refl _ _).alloc (Nat.le_refl _) _).cell hbw).trans hc, hown.alloc _, heap_alloc_new w _, (Below.refl _ _).alloc (Nat.le_refl _) _⟩
  go_enter Tryz.func135, Tryz.ntmps135
  go_wp2
  change Code.wp _ _ _ _ (w.alloc (.cells #[.bool false, .string ByteArray.empty] 38))
  obtain ⟨hc1, hown1, hnew, hB⟩ := HX.out _ rfl
  revert hc1 hown1 hnew hB
  generalize w.alloc (.cells #[.bool false, .string ByteArray.empty] 38) = w1
  intro hc1 hown1 hnew hB
  have n0 : w1.cell? ⟨w.heap.size, 0, none⟩ = some (.bool false) := cell_at hnew rfl
  have n1 : w1.cell? ⟨w.heap.size, 1, none⟩ = some (.string ByteArray.empty) := cell_at hnew rfl
  have f0 := frozen_at 0 hnew
  have f1 := frozen_at 1 hnew
  have HN : Hid (w1.heap[w.heap.size]? = some (.cells #[.bool false, .string ByteArray.empty] 38 (0, 0))) := hnew
  have HB : Hid (Below w.heap.size w w1) := hB
  clear hnew hB hown HX hc
  go_loopw [6] (fun i wr => ∃ k : Nat, k ≤ ws.length ∧ i = .int .i64 k ∧ wr = w1 ∧ wroteL ws key = wroteL (ws.drop k) key) (fun i _ => ws.length - (intOf i).toNat)
  case atStart => exact ⟨0, by omega, rfl, rfl, by simp⟩
  case round =>
    obtain ⟨k, hk, rfl, rfl, hu⟩ := hrel
    by_cases hlt : k < ws.length
    · have hlt' : (k : Int) < (ws.length : Int) := by omega
      obtain ⟨g, cap', he⟩ := owns_some hown1 (by omega)
      simp only [Value.slice.injEq] at he
      obtain ⟨rfl, -, rfl⟩ := he
      obtain ⟨d0, d1, d2⟩ := writeCells_at ws k ws[k] (List.getElem?_eq_getElem hlt)
      have c0 := owns_cell hown1 d0
      have c1 := owns_cell hown1 d1
      have c2 := owns_cell hown1 d2
      have hu1 : wroteL ws key = if ws[k].1 = key then some ws[k].2 else wroteL (ws.drop (k + 1)) key := by
        rw [hu, List.drop_eq_getElem_cons hlt]; rfl
      clear hu d0 d1 d2
      generalize ws[k] = pk at c0 c1 c2 hu1
      obtain ⟨k0, b0, v0⟩ := pk
      simp only at c0 c1 c2 hu1
      by_cases hkey : k0 = key
      · subst hkey
        rw [if_pos rfl] at hu1
        have HU : Hid (wroteL ws k0 = some (b0, v0)) := hu1
        have m0 := setCell_at wr w.heap.size 0 (.bool b0) _ _ HN.out
        have m1 := setCell_at _ w.heap.size 1 (.string v0) _ _ m0
        have HF : Hid (((wr.setCell ⟨w.heap.size, 0, none⟩ (.bool b0)).setCell ⟨w.heap.size, 1, none⟩ (.string v0)).heap[w.heap.size]? = some (.cells #[.bool b0, .string v0] 38 (0, 0))) := m1.trans rfl
        clear m0 m1 hu1
        go_wp2
        refine bodyPost_ret (v := .tuple #[.agg #[.bool b0, .string v0], .bool true]) ?_ rfl ⟨by rw [HU.out]; rfl, ?_⟩
        · exact results_row_tmp Tryz.results135 _ _ w.heap.size 38 #[.bool b0, .string v0] (0, 0) _ _ rfl HF.out Tryz.underlying38 rfl (by kernel_rfl) rfl
        · exact (HB.out.setCell (p := ⟨w.heap.size, 0, none⟩) (Nat.le_refl _) _).setCell (p := ⟨w.heap.size, 1, none⟩) (Nat.le_refl _) _
      · rw [if_neg hkey] at hu1
        have hke := toList_ne hkey
        go_wp2
        exact ⟨⟨k + 1, by omega, by simp, trivial, hu1⟩, by simp [intOf]; omega⟩
    · have hlt' : ¬ (k : Int) < (ws.length : Int) := by omega
      have hu1 : wroteL ws key = none := by rw [hu, List.drop_eq_nil_of_le (by omega)]; rfl
      have HU : Hid (wroteL ws key = none) := hu1
      clear hu hu1
      have HF : Hid (((wr.setCell ⟨w.heap.size, 0, none⟩ (.bool false)).setCell ⟨w.heap.size, 1, none⟩ (.string ByteArray.empty)).heap[w.heap.size]? = some (.cells #[.bool false, .string ByteArray.empty] 38 (0, 0))) := by
          exact (setCell_at _ _ 1 _ _ _ (setCell_at _ _ 0 _ _ _ HN.out)).trans rfl
      go_wp2
      refine bodyPost_ret (v := .tuple #[.agg #[.bool false, .string ByteArray.empty], .bool false]) ?_ rfl ⟨by rw [HU.out]; rfl, ?_⟩
      · exact results_row_tmp Tryz.results135 _ _ w.heap.size 38 #[.bool false, .string ByteArray.empty] (0, 0) _ _ rfl HF.out Tryz.underlying38 rfl (by kernel_rfl) rfl
      · exact (HB.out.setCell (p := ⟨w.heap.size, 0, none⟩) (Nat.le_refl _) _).setCell (p := ⟨w.heap.size, 1, none⟩) (Nat.le_refl _) _
end Go.Proofs.YtihbngfbcnojcaaGreat

namespace Go.Proofs.YtihbngfbcnojcaaGreat
open Go.RowKit

set_option maxRecDepth 100000 in
set_option maxHeartbeats 2000000 in
/-- (*Store).Get where something stands against it. -/
theorem storeGet_barred {w : World} {s : Sv} {q : Nat} (h : Lies w s) (g : Good s) (hh : Held s q) (t : Int) (ht : IsInt t) (key : ByteArray) (hks : key.size ≤ 140737488355328) (hf : ¬ Free s t key) (k : Bool) (a : Nat) (haw : a < w.heap.size) (ca : w.cell? ⟨a, 2, none⟩ = some (.iface (kindT k) (.pointer (some ⟨s.kb, 0, none⟩)))) :
    Calls Tryz.prog 23 #[.pointer (some ⟨a, 0, none⟩), .int .i64 t, .string key] w fun e w' => e = .returned (.tuple #[.agg #[.bool false, .string ByteArray.empty], .int .i64 (readErr s t key)]) ∧ Goes w w' s s := by
  have HB0 : Hid (∀ o, Below w.heap.size w (w.alloc o)) := fun o => (Below.refl _ w).alloc (Nat.le_refl _) _
  have KM : Hid (∀ W, Below w.heap.size w W → Calls Tryz.prog 279 #[.pointer (some ⟨s.kb, 0, none⟩), .int .i64 t, .string key] W fun e w' => e = .returned (.int .i64 (readErr s t key)) ∧ Goes W w' s s) := fun W hW => mayRead_barred (h.below hW) g hh t ht key hks hf
  have KD : Hid (∀ o, Calls Tryz.prog 41 #[.pointer (some ⟨a, 0, none⟩)] (w.alloc o) fun e w' => e = .returned (.bool false) ∧ w.alloc o = w') := fun o => dead_not a _ _ _ (((HB0.out o).cell (p := ⟨a, 2, none⟩) haw).trans ca)
  have HL : Hid (Lies w s) := h
  have hne : (readErr s t key == 0) = false := by simpa using readErr_ne s t key
  generalize readErr s t key = er at KM hne ⊢
  generalize hkb : s.kb = kb at KM ca
  clear h g hh hf
  have hme := meth_mayRead
  have hmn := meth_mayRead_no
  cases k with
  | true =>
    simp only [kindT] at ca
    go_enter Tryz.func23, Tryz.ntmps23
    go_wp2_with (first
      | (go_at_call 41; refine (KD.out _).mono ?_; rintro e w' ⟨rfl, rfl⟩)
      | (go_at_call 279; go_must (
          refine (KM.out _ (HB0.out _)).mono ?_
          rintro e w1 ⟨rfl, hg1⟩
          have HG1 := @id (Hid (Goes _ w1 s s)) hg1
          have q2 := (hg1.own HL.out (q := w.heap.size) (Nat.le_refl _) (by simp)).1.trans (heap_alloc_new w _)
          have x0 := cell_at (j := 0) q2 rfl
          have x1 := cell_at (j := 1) q2 rfl
          have y0 := frozen_at 0 q2
          have y1 := frozen_at 1 q2
          have HQQ := @id (Hid _) q2
          clear hg1 q2)))
    have k3 := setCell_at _ w.heap.size 1 (.string ByteArray.empty) _ 38 (setCell_at w1 w.heap.size 0 (.bool false) _ 38 HQQ.out)
    refine bodyPost_ret (v := .tuple #[.agg #[.bool false, .string ByteArray.empty], .int .i64 er]) (results_row_tmp Tryz.results23 _ _ w.heap.size 38 #[.bool false, .string ByteArray.empty] (0, 0) _ _ rfl k3 Tryz.underlying38 rfl (by kernel_rfl) rfl) rfl ⟨rfl, ?_⟩
    refine Goes.wrap HL.out (HB0.out _) HG1.out (fun j _ hj => ?_) ?_
    · have hj' : j ≠ w.heap.size := by simp at hj; omega
      rw [Below.heap_setCell _ _ _ _ hj', Below.heap_setCell _ _ _ _ hj']
    · exact ((Below.refl _ _).setCell (p := ⟨w.heap.size, 0, none⟩) (by simp) _).setCell (p := ⟨w.heap.size, 1, none⟩) (by simp) _
  | false =>
    simp only [kindT] at ca
    go_enter Tryz.func23, Tryz.ntmps23
    go_wp2_with (first
      | (go_at_call 41; refine (KD.out _).mono ?_; rintro e w' ⟨rfl, rfl⟩)
      | (go_at_call 279; go_must (
          refine (KM.out _ (HB0.out _)).mono ?_
          rintro e w1 ⟨rfl, hg1⟩
          have HG1 := @id (Hid (Goes _ w1 s s)) hg1
          have q2 := (hg1.own HL.out (q := w.heap.size) (Nat.le_refl _) (by simp)).1.trans (heap_alloc_new w _)
          have x0 := cell_at (j := 0) q2 rfl
          have x1 := cell_at (j := 1) q2 rfl
          have y0 := frozen_at 0 q2
          have y1 := frozen_at 1 q2
          have HQQ := @id (Hid _) q2
          clear hg1 q2)))
    have k3 := setCell_at _ w.heap.size 1 (.string ByteArray.empty) _ 38 (setCell_at w1 w.heap.size 0 (.bool false) _ 38 HQQ.out)
    refine bodyPost_ret (v := .tuple #[.agg #[.bool false, .string ByteArray.empty], .int .i64 er]) (results_row_tmp Tryz.results23 _ _ w.heap.size 38 #[.bool false, .string ByteArray.empty] (0, 0) _ _ rfl k3 Tryz.underlying38 rfl (by kernel_rfl) rfl) rfl ⟨rfl, ?_⟩
    refine Goes.wrap HL.out (HB0.out _) HG1.out (fun j _ hj => ?_) ?_
    · have hj' : j ≠ w.heap.size := by simp at hj; omega
      rw [Below.heap_setCell _ _ _ _ hj', Below.heap_setCell _ _ _ _ hj']
    · exact ((Below.refl _ _).setCell (p := ⟨w.heap.size, 0, none⟩) (by simp) _).setCell (p := ⟨w.heap.size, 1, none⟩) (by simp) _
end Go.Proofs.YtihbngfbcnojcaaGreat

namespace Go.Proofs.YtihbngfbcnojcaaGreat
open Go.RowKit

set_option maxRecDepth 100000 in
set_option maxHeartbeats 4000000 in
/-- (*Store).Get of a store of this kind, where nothing stands against it. -/
theorem storeGet_steal {w : World} {s : Sv} {q : Nat} (h : Lies w s) (g : Good s) (hh : Held s q) (hq : q ≤ 99999) (t : Int) (ht : IsInt t) (x : TxE) (hx : s.tx t = some x) (key : ByteArray) (hks : key.size ≤ 8) (hf : Free s t key) (a : Nat) (haw : a < w.heap.size) (hao : ∀ tag, s.blk tag ≠ some a) (ca : w.cell? ⟨a, 2, none⟩ = some (.iface 234 (.pointer (some ⟨s.kb, 0, none⟩)))) :
    Calls Tryz.prog 23 #[.pointer (some ⟨a, 0, none⟩), .int .i64 t, .string key] w fun e w' => e = .returned (.tuple #[.agg #[.bool (under (s.cont (bucket key)) key).1, .string (under (s.cont (bucket key)) key).2], .int .i64 0]) ∧ ∃ s', Paged (granted s t x key 1) s' ∧ Goes w w' s s' ∧ Held s' (q + 1) := by
  have HB0 : Hid (∀ o, Below w.heap.size w (w.alloc o)) := fun o => (Below.refl _ w).alloc (Nat.le_refl _) _
  have KM : Hid (∀ W, Below w.heap.size w W → Calls Tryz.prog 279 #[.pointer (some ⟨s.kb, 0, none⟩), .int .i64 t, .string key] W fun e w' => e = .returned (.int .i64 0) ∧ Goes W w' s s) := fun W hW => mayRead_free (h.below hW) g hh t ht key (by omega) hf
  have KD : Hid (∀ o, Calls Tryz.prog 41 #[.pointer (some ⟨a, 0, none⟩)] (w.alloc o) fun e w' => e = .returned (.bool false) ∧ w.alloc o = w') := fun o => dead_not a _ _ _ (((HB0.out o).cell (p := ⟨a, 2, none⟩) haw).trans ca)
  have KC : Hid (∀ W, Calls Tryz.prog 45 #[.string key] W fun e w' => e = .returned (.string key) ∧ Below W.heap.size W w') := fun W => clone_any key W (by omega)
  have KR : Hid (∀ W0 W, Goes W0 W s s → Calls Tryz.prog 302 #[.pointer (some ⟨s.kb, 0, none⟩), .int .i64 t, .string key] W fun e w' => e = .returned (.agg #[.bool (under (s.cont (bucket key)) key).1, .string (under (s.cont (bucket key)) key).2]) ∧ ∃ s', Paged (granted s t x key 1) s' ∧ Goes W0 w' s s' ∧ Held s' (q + 1)) := fun W0 W hW => (stealRead_step hW.lies hW.good hh hq t ht x hx key hks).mono fun e w' ⟨h1, s', h2, h3, h4⟩ => ⟨h1, s', h2, hW.trans h3, h4⟩
  have HBL : Hid (∀ W0 W W', Goes W0 W s s → Below W.heap.size W W' → Goes W0 W' s s) := fun W0 W W' h1 h2 => h1.trans (Goes.of_below h1.lies h1.good h2)
  have HKA : Hid (∀ o W s', Goes (w.alloc o) W s s' → W.cell? ⟨a, 2, none⟩ = some (.iface 234 (.pointer (some ⟨s.kb, 0, none⟩)))) := fun o W s' hW => (World.cell?_of_block ((hW.off a (by simp; omega) hao).trans ((HB0.out o).block a haw))).trans ca
  have HL : Hid (Lies w s) := h
  generalize (under (s.cont (bucket key)) key) = u at KR ⊢
  obtain ⟨ui, us⟩ := u
  simp only at KR ⊢
  generalize granted s t x key 1 = s1 at KR ⊢
  generalize hkb : s.kb = kb at KM ca KR HKA
  clear h g hh hf hx hao
  have hna : a ≠ w.heap.size := by omega
  have hna2 : w.heap.size ≠ a := by omega
  have hna3 := World.new_ne w ⟨a, 2, none⟩ ca
  have hme := meth_mayRead
  have hmr := meth_read
  go_enter Tryz.func23, Tryz.ntmps23
  go_wp2_with (first
    | (go_at_call 41; refine (KD.out _).mono ?_; rintro e w' ⟨rfl, rfl⟩)
    | (go_at_call 279; go_must (
        refine (KM.out _ (HB0.out _)).mono ?_
        rintro e w1 ⟨rfl, hg1⟩
        have HG1 := @id (Hid (Goes _ w1 s s)) hg1
        have ca1 := HKA.out _ w1 s hg1
        clear hg1)))
  go_region_held3 (fun w' => w'.cell? ⟨a, 2, none⟩ = some (.iface 234 (.pointer (some ⟨kb, 0, none⟩))))
    (go_keep)
    (first
      | (go_at_call 45; go_must (
          refine (KC.out _).mono ?_
          rintro e w2 ⟨rfl, hb2⟩
          have HG2 := @id (Hid (Goes _ w2 s s)) (HBL.out _ _ _ HG1.out.drew hb2)
          have ca2 := HKA.out _ w2 s HG2.out
          clear hb2))
      | (go_at_call 302; go_must (
          refine (KR.out _ _ HG2.out).mono ?_
          rintro e w3 ⟨rfl, s2, hp2, hg2, hh2⟩
          have HP2 : Hid (Paged s1 s2) := hp2
          have HG3 := @id (Hid (Goes _ w3 s s2)) hg2
          have HH3 : Hid (Held s2 (q + 1)) := hh2
          have ca3 := HKA.out _ w3 s2 hg2
          have q2 := (hg2.own HL.out (q := w.heap.size) (Nat.le_refl _) (by simp)).1.trans (heap_alloc_new w _)
          have x0 := cell_at (j := 0) q2 rfl
          have x1 := cell_at (j := 1) q2 rfl
          have y0 := frozen_at 0 q2
          have y1 := frozen_at 1 q2
          have HQQ := @id (Hid _) q2
          clear hp2 hg2 hh2 q2)))
  all_goals
    go_wp2
    have k3 := setCell_at _ w.heap.size 1 (.string us) _ 38 (setCell_at w3 w.heap.size 0 (.bool ui) _ 38 HQQ.out)
    refine bodyPost_ret (v := .tuple #[.agg #[.bool ui, .string us], .int .i64 0]) (results_row_tmp Tryz.results23 _ _ w.heap.size 38 #[.bool ui, .string us] (0, 0) _ _ rfl k3 Tryz.underlying38 rfl (by kernel_rfl) rfl) rfl ⟨rfl, s2, HP2.out, ?_, HH3.out⟩
    refine Goes.wrap HL.out (HB0.out _) HG3.out (fun j _ hj => ?_) ?_
    · have hj' : j ≠ w.heap.size := by simp at hj; omega
      rw [Below.heap_setCell _ _ _ _ hj', Below.heap_setCell _ _ _ _ hj']
    · exact ((Below.refl _ _).setCell (p := ⟨w.heap.size, 0, none⟩) (by simp) _).setCell (p := ⟨w.heap.size, 1, none⟩) (by simp) _

set_option maxRecDepth 100000 in
set_option maxHeartbeats 4000000 in
/-- (*Store).Get of a store of this kind, where nothing stands against it. -/
theorem storeGet_noSteal {w : World} {s : Sv} {q : Nat} {md : TabV} (h : Lies w s) (g : Good s) (hh : Held s q) (hm : Made s md) (hq : q ≤ 99999) (t : Int) (ht : IsInt t) (x : TxE) (hx : s.tx t = some x) (key : ByteArray) (hks : key.size ≤ 8) (hf : Free s t key) (a : Nat) (haw : a < w.heap.size) (hao : ∀ tag, s.blk tag ≠ some a) (ca : w.cell? ⟨a, 2, none⟩ = some (.iface 224 (.pointer (some ⟨s.kb, 0, none⟩)))) :
    Calls Tryz.prog 23 #[.pointer (some ⟨a, 0, none⟩), .int .i64 t, .string key] w fun e w' => e = .returned (.tuple #[.agg #[.bool ((s.own t key).getD (under (s.cont (bucket key)) key)).1, .string ((s.own t key).getD (under (s.cont (bucket key)) key)).2], .int .i64 0]) ∧ ∃ s', Paged (granted s t x key 1) s' ∧ Goes w w' s s' ∧ Held s' (q + 1) := by
  have HB0 : Hid (∀ o, Below w.heap.size w (w.alloc o)) := fun o => (Below.refl _ w).alloc (Nat.le_refl _) _
  have KM : Hid (∀ W, Below w.heap.size w W → Calls Tryz.prog 279 #[.pointer (some ⟨s.kb, 0, none⟩), .int .i64 t, .string key] W fun e w' => e = .returned (.int .i64 0) ∧ Goes W w' s s) := fun W hW => mayRead_free (h.below hW) g hh t ht key (by omega) hf
  have KD : Hid (∀ o, Calls Tryz.prog 41 #[.pointer (some ⟨a, 0, none⟩)] (w.alloc o) fun e w' => e = .returned (.bool false) ∧ w.alloc o = w') := fun o => dead_not a _ _ _ (((HB0.out o).cell (p := ⟨a, 2, none⟩) haw).trans ca)
  have KC : Hid (∀ W, Calls Tryz.prog 45 #[.string key] W fun e w' => e = .returned (.string key) ∧ Below W.heap.size W w') := fun W => clone_any key W (by omega)
  have KR : Hid (∀ W0 W, Goes W0 W s s → Calls Tryz.prog 281 #[.pointer (some ⟨s.kb, 0, none⟩), .int .i64 t, .string key] W fun e w' => e = .returned (.agg #[.bool ((s.own t key).getD (under (s.cont (bucket key)) key)).1, .string ((s.own t key).getD (under (s.cont (bucket key)) key)).2]) ∧ ∃ s', Paged (granted s t x key 1) s' ∧ Goes W0 w' s s' ∧ Held s' (q + 1)) := fun W0 W hW => (noStealRead_step hW.lies hW.good hh hm hq t ht x hx key hks).mono fun e w' ⟨h1, s', h2, h3, h4⟩ => ⟨h1, s', h2, hW.trans h3, h4⟩
  have HBL : Hid (∀ W0 W W', Goes W0 W s s → Below W.heap.size W W' → Goes W0 W' s s) := fun W0 W W' h1 h2 => h1.trans (Goes.of_below h1.lies h1.good h2)
  have HKA : Hid (∀ o W s', Goes (w.alloc o) W s s' → W.cell? ⟨a, 2, none⟩ = some (.iface 224 (.pointer (some ⟨s.kb, 0, none⟩)))) := fun o W s' hW => (World.cell?_of_block ((hW.off a (by simp; omega) hao).trans ((HB0.out o).block a haw))).trans ca
  have HL : Hid (Lies w s) := h
  generalize ((s.own t key).getD (under (s.cont (bucket key)) key)) = u at KR ⊢
  obtain ⟨ui, us⟩ := u
  simp only at KR ⊢
  generalize granted s t x key 1 = s1 at KR ⊢
  generalize hkb : s.kb = kb at KM ca KR HKA
  clear h g hh hf hx hao hm
  have hna : a ≠ w.heap.size := by omega
  have hna2 : w.heap.size ≠ a := by omega
  have hna3 := World.new_ne w ⟨a, 2, none⟩ ca
  have hme := meth_mayRead_no
  have hmr := meth_read_no
  go_enter Tryz.func23, Tryz.ntmps23
  go_wp2_with (first
    | (go_at_call 41; refine (KD.out _).mono ?_; rintro e w' ⟨rfl, rfl⟩)
    | (go_at_call 279; go_must (
        refine (KM.out _ (HB0.out _)).mono ?_
        rintro e w1 ⟨rfl, hg1⟩
        have HG1 := @id (Hid (Goes _ w1 s s)) hg1
        have ca1 := HKA.out _ w1 s hg1
        clear hg1)))
  go_region_held3 (fun w' => w'.cell? ⟨a, 2, none⟩ = some (.iface 224 (.pointer (some ⟨kb, 0, none⟩))))
    (go_keep)
    (first
      | (go_at_call 45; go_must (
          refine (KC.out _).mono ?_
          rintro e w2 ⟨rfl, hb2⟩
          have HG2 := @id (Hid (Goes _ w2 s s)) (HBL.out _ _ _ HG1.out.drew hb2)
          have ca2 := HKA.out _ w2 s HG2.out
          clear hb2))
      | (go_at_call 281; go_must (
          refine (KR.out _ _ HG2.out).mono ?_
          rintro e w3 ⟨rfl, s2, hp2, hg2, hh2⟩
          have HP2 : Hid (Paged s1 s2) := hp2
          have HG3 := @id (Hid (Goes _ w3 s s2)) hg2
          have HH3 : Hid (Held s2 (q + 1)) := hh2
          have ca3 := HKA.out _ w3 s2 hg2
          have q2 := (hg2.own HL.out (q := w.heap.size) (Nat.le_refl _) (by simp)).1.trans (heap_alloc_new w _)
          have x0 := cell_at (j := 0) q2 rfl
          have x1 := cell_at (j := 1) q2 rfl
          have y0 := frozen_at 0 q2
          have y1 := frozen_at 1 q2
          have HQQ := @id (Hid _) q2
          clear hp2 hg2 hh2 q2)))
  all_goals
    go_wp2
    have k3 := setCell_at _ w.heap.size 1 (.string us) _ 38 (setCell_at w3 w.heap.size 0 (.bool ui) _ 38 HQQ.out)
    refine bodyPost_ret (v := .tuple #[.agg #[.bool ui, .string us], .int .i64 0]) (results_row_tmp Tryz.results23 _ _ w.heap.size 38 #[.bool ui, .string us] (0, 0) _ _ rfl k3 Tryz.underlying38 rfl (by kernel_rfl) rfl) rfl ⟨rfl, s2, HP2.out, ?_, HH3.out⟩
    refine Goes.wrap HL.out (HB0.out _) HG3.out (fun j _ hj => ?_) ?_
    · have hj' : j ≠ w.heap.size := by simp at hj; omega
      rw [Below.heap_setCell _ _ _ _ hj', Below.heap_setCell _ _ _ _ hj']
    · exact ((Below.refl _ _).setCell (p := ⟨w.heap.size, 0, none⟩) (by simp) _).setCell (p := ⟨w.heap.size, 1, none⟩) (by simp) _
end Go.Proofs.YtihbngfbcnojcaaGreat

namespace Go.Proofs.YtihbngfbcnojcaaGreat
open Go.RowKit

theorem meth_mayEnd_steal (c : Nat) (w : World) : (method 476 234 (.pointer (some ⟨c, 0, none⟩)) "MayEnd").run Tryz.prog w = .ok (278, .pointer (some ⟨c, 0, none⟩)) w := by kernel_rfl
theorem meth_commit_steal (c : Nat) (w : World) : (method 476 234 (.pointer (some ⟨c, 0, none⟩)) "Commit").run Tryz.prog w = .ok (300, .pointer (some ⟨c, 0, none⟩)) w := by kernel_rfl
theorem meth_abort_steal (c : Nat) (w : World) : (method 476 234 (.pointer (some ⟨c, 0, none⟩)) "Abort").run Tryz.prog w = .ok (299, .pointer (some ⟨c, 0, none⟩)) w := by kernel_rfl

set_option maxRecDepth 100000 in
set_option maxHeartbeats 1000000 in
/-- What Commit hands to end, over whatever the kind's Commit does. -/
theorem commit1_steal (b0 b1 a kb : Nat) (t : Int) (w : World) (R : World → Prop) (h0 : w.cell? ⟨b0, 0, none⟩ = some (.pointer (some ⟨a, 0, none⟩))) (h1 : w.cell? ⟨b1, 0, none⟩ = some (.int .i64 t)) (ca : w.cell? ⟨a, 2, none⟩ = some (.iface 234 (.pointer (some ⟨kb, 0, none⟩))))
    (KC : Calls Tryz.prog 300 #[.pointer (some ⟨kb, 0, none⟩), .int .i64 t] w.drew fun e w' => e = .returned (.tuple #[]) ∧ R w' ∧ w'.cell? ⟨b0, 0, none⟩ = some (.pointer (some ⟨a, 0, none⟩)) ∧ w'.cell? ⟨b1, 0, none⟩ = some (.int .i64 t) ∧ w'.cell? ⟨a, 2, none⟩ = some (.iface 234 (.pointer (some ⟨kb, 0, none⟩)))) :
    Calls Tryz.prog 44 #[.pointer (some ⟨b0, 0, none⟩), .pointer (some ⟨b1, 0, none⟩)] w fun e w' => e = .returned (.tuple #[]) ∧ R w' := by
  have HKC := @id (Hid (Calls _ _ _ w.drew _)) KC
  have hme := meth_commit_steal
  clear KC
  go_enter Tryz.func44, Tryz.ntmps44
  go_region_held3 (fun w' => w'.cell? ⟨b0, 0, none⟩ = some (.pointer (some ⟨a, 0, none⟩)) ∧ w'.cell? ⟨b1, 0, none⟩ = some (.int .i64 t) ∧ w'.cell? ⟨a, 2, none⟩ = some (.iface 234 (.pointer (some ⟨kb, 0, none⟩))))
    (go_keep)
    (first
      | (go_at_call 300; go_must (
          refine HKC.out.mono ?_
          rintro e w1 ⟨rfl, hr, k0, k1, k2⟩
          have HR : Hid (R w1) := hr
          clear hr)))
  all_goals
    go_wp2
    go_end0
    exact ⟨rfl, HR.out⟩

theorem meth_mayEnd_noSteal (c : Nat) (w : World) : (method 476 224 (.pointer (some ⟨c, 0, none⟩)) "MayEnd").run Tryz.prog w = .ok (278, .pointer (some ⟨c, 0, none⟩)) w := by kernel_rfl
theorem meth_commit_noSteal (c : Nat) (w : World) : (method 476 224 (.pointer (some ⟨c, 0, none⟩)) "Commit").run Tryz.prog w = .ok (275, .pointer (some ⟨c, 0, none⟩)) w := by kernel_rfl
theorem meth_abort_noSteal (c : Nat) (w : World) : (method 476 224 (.pointer (some ⟨c, 0, none⟩)) "Abort").run Tryz.prog w = .ok (272, .pointer (some ⟨c, 0, none⟩)) w := by kernel_rfl

set_option maxRecDepth 100000 in
set_option maxHeartbeats 1000000 in
/-- What Commit hands to end, over whatever the kind's Commit does. -/
theorem commit1_noSteal (b0 b1 a kb : Nat) (t : Int) (w : World) (R : World → Prop) (h0 : w.cell? ⟨b0, 0, none⟩ = some (.pointer (some ⟨a, 0, none⟩))) (h1 : w.cell? ⟨b1, 0, none⟩ = some (.int .i64 t)) (ca : w.cell? ⟨a, 2, none⟩ = some (.iface 224 (.pointer (some ⟨kb, 0, none⟩))))
    (KC : Calls Tryz.prog 275 #[.pointer (some ⟨kb, 0, none⟩), .int .i64 t] w.drew fun e w' => e = .returned (.tuple #[]) ∧ R w' ∧ w'.cell? ⟨b0, 0, none⟩ = some (.pointer (some ⟨a, 0, none⟩)) ∧ w'.cell? ⟨b1, 0, none⟩ = some (.int .i64 t) ∧ w'.cell? ⟨a, 2, none⟩ = some (.iface 224 (.pointer (some ⟨kb, 0, none⟩)))) :
    Calls Tryz.prog 44 #[.pointer (some ⟨b0, 0, none⟩), .pointer (some ⟨b1, 0, none⟩)] w fun e w' => e = .returned (.tuple #[]) ∧ R w' := by
  have HKC := @id (Hid (Calls _ _ _ w.drew _)) KC
  have hme := meth_commit_noSteal
  clear KC
  go_enter Tryz.func44, Tryz.ntmps44
  go_region_held3 (fun w' => w'.cell? ⟨b0, 0, none⟩ = some (.pointer (some ⟨a, 0, none⟩)) ∧ w'.cell? ⟨b1, 0, none⟩ = some (.int .i64 t) ∧ w'.cell? ⟨a, 2, none⟩ = some (.iface 224 (.pointer (some ⟨kb, 0, none⟩))))
    (go_keep)
    (first
      | (go_at_call 275; go_must (
          refine HKC.out.mono ?_
          rintro e w1 ⟨rfl, hr, k0, k1, k2⟩
          have HR : Hid (R w1) := hr
          clear hr)))
  all_goals
    go_wp2
    go_end0
    exact ⟨rfl, HR.out⟩
end Go.Proofs.YtihbngfbcnojcaaGreat

namespace Go.Proofs.YtihbngfbcnojcaaGreat
open Go.RowKit

set_option maxRecDepth 100000 in
set_option maxHeartbeats 1000000 in
/-- end's function value, where the transaction is not open. -/
theorem end1_no_steal (b0 b1 b2 a kb : Nat) (t : Int) (w : World) (h0 : w.cell? ⟨b0, 0, none⟩ = some (.pointer (some ⟨a, 0, none⟩))) (h1 : w.cell? ⟨b1, 0, none⟩ = some (.int .i64 t)) (ca : w.cell? ⟨a, 2, none⟩ = some (.iface 234 (.pointer (some ⟨kb, 0, none⟩))))
    (KM : ∀ W, W.heap = w.heap → Calls Tryz.prog 278 #[.pointer (some ⟨kb, 0, none⟩), .int .i64 t] W fun e w' => e = .returned (.int .i64 5) ∧ W = w') :
    Calls Tryz.prog 69 #[.pointer (some ⟨b0, 0, none⟩), .pointer (some ⟨b1, 0, none⟩), .pointer (some ⟨b2, 0, none⟩)] w fun e w' => e = .returned (.int .i64 5) ∧ Below w.heap.size w w' := by
  have HKM := @id (Hid (Calls _ _ _ w.drew _)) (KM w.drew rfl)
  have HBD : Hid (Below w.heap.size w w.drew) := (Below.refl _ w).drew
  have hme := meth_mayEnd_steal
  clear KM
  go_enter Tryz.func69, Tryz.ntmps69
  go_wp2
  go_region_held3 (fun w' => w'.cell? ⟨b0, 0, none⟩ = some (.pointer (some ⟨a, 0, none⟩)) ∧ w'.cell? ⟨b1, 0, none⟩ = some (.int .i64 t) ∧ w'.cell? ⟨a, 2, none⟩ = some (.iface 234 (.pointer (some ⟨kb, 0, none⟩))))
    (go_keep)
    (first
      | (go_at_call 278; go_must (
          refine HKM.out.mono ?_
          rintro e w1 ⟨rfl, rfl⟩)))
  all_goals
    go_wp2
    go_ret
    exact ⟨rfl, HBD.out⟩

set_option maxRecDepth 100000 in
set_option maxHeartbeats 1000000 in
/-- end's function value, where it is open, over whatever is handed in. -/
theorem end1_yes_steal (b0 b1 b2 a kb f : Nat) (cap : Array Value) (t : Int) (w : World) (R : World → Prop) (h0 : w.cell? ⟨b0, 0, none⟩ = some (.pointer (some ⟨a, 0, none⟩))) (h1 : w.cell? ⟨b1, 0, none⟩ = some (.int .i64 t)) (h2 : w.cell? ⟨b2, 0, none⟩ = some (.func (.func f) #[] cap)) (ca : w.cell? ⟨a, 2, none⟩ = some (.iface 234 (.pointer (some ⟨kb, 0, none⟩))))
    (KM : ∀ W, W.heap = w.heap → Calls Tryz.prog 278 #[.pointer (some ⟨kb, 0, none⟩), .int .i64 t] W fun e w' => e = .returned (.int .i64 0) ∧ W = w')
    (KH : Calls Tryz.prog f cap w.drew fun e w' => e = .returned (.tuple #[]) ∧ R w')
    (hen : ∀ args w, (callFunc f args).run Tryz.prog w = .ok (.enter f args) w) :
    Calls Tryz.prog 69 #[.pointer (some ⟨b0, 0, none⟩), .pointer (some ⟨b1, 0, none⟩), .pointer (some ⟨b2, 0, none⟩)] w fun e w' => e = .returned (.int .i64 0) ∧ R w' := by
  have HKM := @id (Hid (Calls _ _ _ w.drew _)) (KM w.drew rfl)
  have HKH := @id (Hid (Calls _ _ _ w.drew _)) KH
  have hme := meth_mayEnd_steal
  have g2 : w.drew.cell? ⟨b2, 0, none⟩ = some (.func (.func f) #[] cap) := h2
  clear KM KH
  go_enter Tryz.func69, Tryz.ntmps69
  go_wp2
  go_region_held3 (fun w' => w'.cell? ⟨b0, 0, none⟩ = some (.pointer (some ⟨a, 0, none⟩)) ∧ w'.cell? ⟨b1, 0, none⟩ = some (.int .i64 t) ∧ w'.cell? ⟨a, 2, none⟩ = some (.iface 234 (.pointer (some ⟨kb, 0, none⟩))))
    (go_keep)
    (first
      | (go_at_call 278; go_must (
          refine HKM.out.mono ?_
          rintro e w1 ⟨rfl, rfl⟩)))
  all_goals
    go_wp2
    refine HKH.out.mono ?_
    rintro e w1 ⟨rfl, hr⟩
    have HR : Hid (R w1) := hr
    clear hr
    go_wp2
    go_ret
    exact ⟨rfl, HR.out⟩

set_option maxRecDepth 100000 in
set_option maxHeartbeats 1000000 in
/-- end's function value, where the transaction is not open. -/
theorem end1_no_noSteal (b0 b1 b2 a kb : Nat) (t : Int) (w : World) (h0 : w.cell? ⟨b0, 0, none⟩ = some (.pointer (some ⟨a, 0, none⟩))) (h1 : w.cell? ⟨b1, 0, none⟩ = some (.int .i64 t)) (ca : w.cell? ⟨a, 2, none⟩ = some (.iface 224 (.pointer (some ⟨kb, 0, none⟩))))
    (KM : ∀ W, W.heap = w.heap → Calls Tryz.prog 278 #[.pointer (some ⟨kb, 0, none⟩), .int .i64 t] W fun e w' => e = .returned (.int .i64 5) ∧ W = w') :
    Calls Tryz.prog 69 #[.pointer (some ⟨b0, 0, none⟩), .pointer (some ⟨b1, 0, none⟩), .pointer (some ⟨b2, 0, none⟩)] w fun e w' => e = .returned (.int .i64 5) ∧ Below w.heap.size w w' := by
  have HKM := @id (Hid (Calls _ _ _ w.drew _)) (KM w.drew rfl)
  have HBD : Hid (Below w.heap.size w w.drew) := (Below.refl _ w).drew
  have hme := meth_mayEnd_noSteal
  clear KM
  go_enter Tryz.func69, Tryz.ntmps69
  go_wp2
  go_region_held3 (fun w' => w'.cell? ⟨b0, 0, none⟩ = some (.pointer (some ⟨a, 0, none⟩)) ∧ w'.cell? ⟨b1, 0, none⟩ = some (.int .i64 t) ∧ w'.cell? ⟨a, 2, none⟩ = some (.iface 224 (.pointer (some ⟨kb, 0, none⟩))))
    (go_keep)
    (first
      | (go_at_call 278; go_must (
          refine HKM.out.mono ?_
          rintro e w1 ⟨rfl, rfl⟩)))
  all_goals
    go_wp2
    go_ret
    exact ⟨rfl, HBD.out⟩

set_option maxRecDepth 100000 in
set_option maxHeartbeats 1000000 in
/-- end's function value, where it is open, over whatever is handed in. -/
theorem end1_yes_noSteal (b0 b1 b2 a kb f : Nat) (cap : Array Value) (t : Int) (w : World) (R : World → Prop) (h0 : w.cell? ⟨b0, 0, none⟩ = some (.pointer (some ⟨a, 0, none⟩))) (h1 : w.cell? ⟨b1, 0, none⟩ = some (.int .i64 t)) (h2 : w.cell? ⟨b2, 0, none⟩ = some (.func (.func f) #[] cap)) (ca : w.cell? ⟨a, 2, none⟩ = some (.iface 224 (.pointer (some ⟨kb, 0, none⟩))))
    (KM : ∀ W, W.heap = w.heap → Calls Tryz.prog 278 #[.pointer (some ⟨kb, 0, none⟩), .int .i64 t] W fun e w' => e = .returned (.int .i64 0) ∧ W = w')
    (KH : Calls Tryz.prog f cap w.drew fun e w' => e = .returned (.tuple #[]) ∧ R w')
    (hen : ∀ args w, (callFunc f args).run Tryz.prog w = .ok (.enter f args) w) :
    Calls Tryz.prog 69 #[.pointer (some ⟨b0, 0, none⟩), .pointer (some ⟨b1, 0, none⟩), .pointer (some ⟨b2, 0, none⟩)] w fun e w' => e = .returned (.int .i64 0) ∧ R w' := by
  have HKM := @id (Hid (Calls _ _ _ w.drew _)) (KM w.drew rfl)
  have HKH := @id (Hid (Calls _ _ _ w.drew _)) KH
  have hme := meth_mayEnd_noSteal
  have g2 : w.drew.cell? ⟨b2, 0, none⟩ = some (.func (.func f) #[] cap) := h2
  clear KM KH
  go_enter Tryz.func69, Tryz.ntmps69
  go_wp2
  go_region_held3 (fun w' => w'.cell? ⟨b0, 0, none⟩ = some (.pointer (some ⟨a, 0, none⟩)) ∧ w'.cell? ⟨b1, 0, none⟩ = some (.int .i64 t) ∧ w'.cell? ⟨a, 2, none⟩ = some (.iface 224 (.pointer (some ⟨kb, 0, none⟩))))
    (go_keep)
    (first
      | (go_at_call 278; go_must (
          refine HKM.out.mono ?_
          rintro e w1 ⟨rfl, rfl⟩)))
  all_goals
    go_wp2
    refine HKH.out.mono ?_
    rintro e w1 ⟨rfl, hr⟩
    have HR : Hid (R w1) := hr
    clear hr
    go_wp2
    go_ret
    exact ⟨rfl, HR.out⟩
end Go.Proofs.YtihbngfbcnojcaaGreat
