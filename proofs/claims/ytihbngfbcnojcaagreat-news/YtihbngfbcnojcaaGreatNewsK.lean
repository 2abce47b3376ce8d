import Derived.Test.YtihbngfbcnojcaaGreatNewsA
import Derived.Deep.DeepMust
namespace Go.Proofs.YtihbngfbcnojcaaGreat
open Go.RowKit

theorem zeroDisk_size : Tryz.zeroCells103.size = 27779 := by kernel_rfl
theorem zeroDisk_slice : Tryz.zeroCells103[27776]? = some (.slice none 0 0) := by kernel_rfl
theorem zeroDisk_fuse : Tryz.zeroCells103[27777]? = some (.int .i64 0) := by kernel_rfl

set_option maxHeartbeats 400000 in
theorem known_any (m : Int) (w : World) :
    Calls Tryz.prog 48 #[.int .i64 m] w fun e w' => e = .returned (.bool (m == 0 || m == 1)) ∧ w = w' := by
  go_enter Tryz.func48, Tryz.ntmps48
  go_wp2
  all_goals
    go_ret
    exact ⟨by simp [*], rfl⟩

set_option maxHeartbeats 400000 in
theorem kindOf_steal (p : Option Addr) (w : World) :
    Calls Tryz.prog 102 #[.int .i64 0, .pointer p] w fun e w' => e = .returned (.iface 234 (.pointer (some ⟨w.heap.size + 5, 0, none⟩))) ∧
      Below w.heap.size w w' ∧ w'.heap.size = w.heap.size + 6 ∧ w'.heap[w.heap.size + 1 + 1 + 1 + 1]? = some (.map #[] 0) ∧
      w'.heap[w.heap.size + 5]? = some (.cells #[.pointer p, .int .i64 0, .pointer p, .map (some (w.heap.size + 1 + 1)),
        .map (some (w.heap.size + 1 + 1 + 1)), .map (some (w.heap.size + 1 + 1 + 1 + 1)), .int .i64 0, .int .i64 0] 236 (0, 0)) := by
  have hmm := @run_makeMap Tryz.prog
  go_enter Tryz.func102, Tryz.ntmps102
  go_wp2_with (first | (go_at_call 147; refine (newCore_any _ _).mono ?_; rintro e w' ⟨rfl, hb, hs, hm⟩))
  go_ret
  refine ⟨rfl, hb.alloc (by omega) _, by simp [hs], ?_, ?_⟩
  · rw [Below.heap_alloc _ _ _ (by omega)]; exact hm
  · show (Array.push _ _)[_]? = _
    rw [Array.getElem?_push, if_pos (by omega)]

set_option maxHeartbeats 400000 in
theorem kindOf_nosteal (p : Option Addr) (w : World) :
    Calls Tryz.prog 102 #[.int .i64 1, .pointer p] w fun e w' => e = .returned (.iface 224 (.pointer (some ⟨w.heap.size + 5 + 1, 0, none⟩))) ∧
      Below w.heap.size w w' := by
  have hmm := @run_makeMap Tryz.prog
  go_enter Tryz.func102, Tryz.ntmps102
  go_wp2_with (first | (go_at_call 147; refine (newCore_any _ _).mono ?_; rintro e w' ⟨rfl, hb, hs, hm⟩))
  go_ret
  exact ⟨rfl, (hb.alloc (by omega) _).alloc (by simp; omega) _⟩

/-- A new kind Steal lies at c, its map of open transactions at m, from N on. -/
def KindAt (N : Nat) (w : World) (c : Nat) : Prop :=
  ∃ m v0 v1 v2 v3 v4, N ≤ c ∧ N ≤ m ∧ w.heap[c]? = some (.cells #[v0, v1, v2, v3, v4, .map (some m), .int .i64 0, .int .i64 0] 236 (0, 0)) ∧ w.heap[m]? = some (.map #[] 0)

set_option maxHeartbeats 400000 in
theorem startAs_steal (vb db : Nat) (D : Array Value) (w : World) (hne : vb ≠ db) (hv : w.heap[vb]? = some (.cells (volCells db 1 0 0) 126 (0, 0))) (hD : w.heap[db]? = some (.cells D 103 (0, 0))) (hDz : D.size = 27779) (hDv : D[27776]? = some (.slice none 0 0)) (hDf : D[27777]? = some (.int .i64 0)) :
    Calls Tryz.prog 82 #[.int .i64 0, .pointer (some ⟨vb, 0, none⟩)] w fun e w' => ∃ c, e = .returned (.iface 234 (.pointer (some ⟨c, 0, none⟩))) ∧ (∀ k, k < w.heap.size → k ≠ vb → k ≠ db → w'.heap[k]? = w.heap[k]?) ∧ Below 0 w w' ∧ KindAt w.heap.size w' c := by
  have c1 : w.cell? ⟨vb, 1, none⟩ = some (.int .u32 1) := cell_at hv rfl
  have HV : Hid (w.heap[vb]? = some (.cells (volCells db 1 0 0) 126 (0, 0))) := hv
  have HD : Hid (w.heap[db]? = some (.cells D 103 (0, 0)) ∧ D.size = 27779 ∧ D[27776]? = some (.slice none 0 0) ∧ D[27777]? = some (.int .i64 0)) := ⟨hD, hDz, hDv, hDf⟩
  clear hv hD hDz hDv hDf
  go_enter Tryz.func82, Tryz.ntmps82
  go_wp2_with (first
    | (go_at_call 85; go_must (
        refine (mark_any vb db 1 0 0 1 0 D w (by omega) (by omega) (by omega) (by omega) (by omega) (by omega) (by omega) (by omega) (by omega) (by omega) hne HV.out HD.out.1 HD.out.2.1 HD.out.2.2.1 HD.out.2.2.2).mono ?_
        rintro e w1 ⟨rfl, _hv1, _hd1, ho1, hb1⟩))
    | (go_at_call 102; go_must (
        refine (kindOf_steal _ _).mono ?_
        rintro e w2 ⟨rfl, hb2, hs2, hm2, hc2⟩)))
  go_ret
  have hz := hb1.size
  refine ⟨_, rfl, fun k h1 h2 h3 => (hb2.block k (by omega)).trans (ho1 k h1 h2 h3), hb1.trans (hb2.mono (by omega)), _, _, _, _, _, _, ?_, ?_, hc2, hm2⟩
  · omega
  · omega

set_option maxHeartbeats 400000 in
theorem startAs_nosteal (vb db : Nat) (D : Array Value) (w : World) (hne : vb ≠ db) (hv : w.heap[vb]? = some (.cells (volCells db 1 0 0) 126 (0, 0))) (hD : w.heap[db]? = some (.cells D 103 (0, 0))) (hDz : D.size = 27779) (hDv : D[27776]? = some (.slice none 0 0)) (hDf : D[27777]? = some (.int .i64 0)) :
    Calls Tryz.prog 82 #[.int .i64 1, .pointer (some ⟨vb, 0, none⟩)] w fun e w' => ∃ c, e = .returned (.iface 224 (.pointer (some ⟨c, 0, none⟩))) ∧ (∀ k, k < w.heap.size → k ≠ vb → k ≠ db → w'.heap[k]? = w.heap[k]?) ∧ Below 0 w w' := by
  have c1 : w.cell? ⟨vb, 1, none⟩ = some (.int .u32 1) := cell_at hv rfl
  have HV : Hid (w.heap[vb]? = some (.cells (volCells db 1 0 0) 126 (0, 0))) := hv
  have HD : Hid (w.heap[db]? = some (.cells D 103 (0, 0)) ∧ D.size = 27779 ∧ D[27776]? = some (.slice none 0 0) ∧ D[27777]? = some (.int .i64 0)) := ⟨hD, hDz, hDv, hDf⟩
  clear hv hD hDz hDv hDf
  go_enter Tryz.func82, Tryz.ntmps82
  go_wp2_with (first
    | (go_at_call 85; go_must (
        refine (mark_any vb db 1 0 0 1 1 D w (by omega) (by omega) (by omega) (by omega) (by omega) (by omega) (by omega) (by omega) (by omega) (by omega) hne HV.out HD.out.1 HD.out.2.1 HD.out.2.2.1 HD.out.2.2.2).mono ?_
        rintro e w1 ⟨rfl, _hv1, _hd1, ho1, hb1⟩))
    | (go_at_call 102; go_must (
        refine (kindOf_nosteal _ _).mono ?_
        rintro e w2 ⟨rfl, hb2⟩)))
  go_ret
  have hz := hb1.size
  exact ⟨_, rfl, fun k h1 h2 h3 => (hb2.block k (by omega)).trans (ho1 k h1 h2 h3), hb1.trans (hb2.mono (by omega))⟩

theorem KindAt.mono {N N' : Nat} {w : World} {c : Nat} (h : KindAt N w c) (hN : N' ≤ N) : KindAt N' w c := by
  obtain ⟨m, v0, v1, v2, v3, v4, h1, h2, h3, h4⟩ := h
  exact ⟨m, v0, v1, v2, v3, v4, by omega, by omega, h3, h4⟩

/-- From w to w' a new volume was laid at w's end, and the disk at db written. -/
theorem new_frame {w w' : World} {db : Nat} {o : Obj} (ho : ∀ k, k < (w.alloc o).heap.size → k ≠ w.heap.size → k ≠ db → w'.heap[k]? = (w.alloc o).heap[k]?) (hb : Below 0 (w.alloc o) w') :
    (∀ k, k < w.heap.size → k ≠ db → w'.heap[k]? = w.heap[k]?) ∧ Below 0 w w' :=
  ⟨fun k h1 h2 => (ho k (by simp; omega) (by omega) h2).trans (Below.heap_alloc _ _ _ h1), ((Below.refl _ _).alloc (Nat.zero_le _) _).trans hb⟩

set_option maxHeartbeats 400000 in
theorem firstStart_any (db : Nat) (w : World) :
    Calls Tryz.prog 76 #[.pointer (some ⟨db, 0, none⟩)] w fun e w' => e = .returned (.pointer (some ⟨w.heap.size, 0, none⟩)) ∧ w' = w.alloc (.cells (volCells db 1 0 0) 126) := by
  go_enter Tryz.func76, Tryz.ntmps76
  go_wp2
  go_ret
  exact ⟨rfl, rfl⟩

set_option maxHeartbeats 400000 in
theorem wayNew_steal (db : Nat) (D : Array Value) (w : World) (hD : w.heap[db]? = some (.cells D 103 (0, 0))) (hDz : D.size = 27779) (hDv : D[27776]? = some (.slice none 0 0)) (hDf : D[27777]? = some (.int .i64 0)) :
    Calls Tryz.prog 67 #[.int .i64 0, .pointer (some ⟨db, 0, none⟩)] w fun e w' => ∃ c, e = .returned (.iface 234 (.pointer (some ⟨c, 0, none⟩))) ∧ (∀ k, k < w.heap.size → k ≠ db → w'.heap[k]? = w.heap[k]?) ∧ Below 0 w w' ∧ KindAt w.heap.size w' c := by
  have hdw : db < w.heap.size := lt_of_block' hD
  have HD : Hid (w.heap[db]? = some (.cells D 103 (0, 0)) ∧ D.size = 27779 ∧ D[27776]? = some (.slice none 0 0) ∧ D[27777]? = some (.int .i64 0)) := ⟨hD, hDz, hDv, hDf⟩
  clear hD hDz hDv hDf
  go_enter Tryz.func67, Tryz.ntmps67
  go_wp2_with (first
    | (go_at_call 76; go_must (
        refine (firstStart_any db w).mono ?_
        rintro e w0 ⟨rfl, rfl⟩))
    | (go_at_call 82; go_must (
        refine (startAs_steal w.heap.size db D _ (by omega) (heap_alloc_new w _) ((Below.heap_alloc _ _ _ hdw).trans HD.out.1) HD.out.2.1 HD.out.2.2.1 HD.out.2.2.2).mono ?_
        rintro e w1 ⟨c, rfl, ho1, hb1, hk⟩)))
  go_ret
  obtain ⟨h1, h2⟩ := new_frame ho1 hb1
  exact ⟨_, rfl, h1, h2, hk.mono (by simp)⟩

set_option maxHeartbeats 400000 in
theorem wayNew_nosteal (db : Nat) (D : Array Value) (w : World) (hD : w.heap[db]? = some (.cells D 103 (0, 0))) (hDz : D.size = 27779) (hDv : D[27776]? = some (.slice none 0 0)) (hDf : D[27777]? = some (.int .i64 0)) :
    Calls Tryz.prog 67 #[.int .i64 1, .pointer (some ⟨db, 0, none⟩)] w fun e w' => ∃ c, e = .returned (.iface 224 (.pointer (some ⟨c, 0, none⟩))) ∧ (∀ k, k < w.heap.size → k ≠ db → w'.heap[k]? = w.heap[k]?) ∧ Below 0 w w' := by
  have hdw : db < w.heap.size := lt_of_block' hD
  have HD : Hid (w.heap[db]? = some (.cells D 103 (0, 0)) ∧ D.size = 27779 ∧ D[27776]? = some (.slice none 0 0) ∧ D[27777]? = some (.int .i64 0)) := ⟨hD, hDz, hDv, hDf⟩
  clear hD hDz hDv hDf
  go_enter Tryz.func67, Tryz.ntmps67
  go_wp2_with (first
    | (go_at_call 76; go_must (
        refine (firstStart_any db w).mono ?_
        rintro e w0 ⟨rfl, rfl⟩))
    | (go_at_call 82; go_must (
        refine (startAs_nosteal w.heap.size db D _ (by omega) (heap_alloc_new w _) ((Below.heap_alloc _ _ _ hdw).trans HD.out.1) HD.out.2.1 HD.out.2.2.1 HD.out.2.2.2).mono ?_
        rintro e w1 ⟨c, rfl, ho1, hb1⟩)))
  go_ret
  obtain ⟨h1, h2⟩ := new_frame ho1 hb1
  exact ⟨_, rfl, h1, h2⟩
end Go.Proofs.YtihbngfbcnojcaaGreat
