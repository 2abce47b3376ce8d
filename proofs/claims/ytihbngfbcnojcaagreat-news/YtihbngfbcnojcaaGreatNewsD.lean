import Derived.Test.YtihbngfbcnojcaaGreatNewsC
import Derived.Test.YtihbngfbcnojcaaGreatNewsM
import Derived.RegionTactic
import Derived.ChangeAlike
import Derived.BigRegion
namespace Go.Proofs.YtihbngfbcnojcaaGreat
open Go.RowKit

theorem meth_begin (c : Nat) (w : World) : (method 476 234 (.pointer (some ⟨c, 0, none⟩)) "Begin").run Tryz.prog w = .ok (273, .pointer (some ⟨c, 0, none⟩)) w := by kernel_rfl

set_option maxRecDepth 100000 in
set_option maxHeartbeats 1000000 in
theorem coreBegin_first (N c m : Nat) (w : World) (v0 v1 v2 v3 v4 : Value) (hc : N ≤ c) (hm : N ≤ m) (hN : N ≤ w.heap.size)
    (h2 : w.heap[c]? = some (.cells #[v0, v1, v2, v3, v4, .map (some m), .int .i64 0, .int .i64 0] 236 (0, 0))) (h3 : w.heap[m]? = some (.map #[] 0)) :
    Calls Tryz.prog 273 #[.pointer (some ⟨c, 0, none⟩)] w fun e w' => e = .returned (.tuple #[.int .i64 1, .int .i64 0]) ∧ Below N w w' := by
  have c5 : w.cell? ⟨c, 5, none⟩ = some (.map (some m)) := cell_of_heap (j := 5) h2 rfl
  have c6 : w.cell? ⟨c, 6, none⟩ = some (.int .i64 0) := cell_of_heap (j := 6) h2 rfl
  have c7 : w.cell? ⟨c, 7, none⟩ = some (.int .i64 0) := cell_of_heap (j := 7) h2 rfl
  have f6 := frozen_of_heap 6 h2
  have f7 := frozen_of_heap 7 h2
  have hmm := @run_makeMap Tryz.prog
  have hlen := run_len_map (P := Tryz.prog) (w := w) Tryz.underlying227 3 h3
  have H2 : Hid (w.heap[c]? = some (.cells #[v0, v1, v2, v3, v4, .map (some m), .int .i64 0, .int .i64 0] 236 (0, 0))) := h2
  have hcm : m ≠ c := by rintro rfl; rw [h3] at h2; cases h2
  clear h2
  go_enter Tryz.func273, Tryz.ntmps273
  go_wp2
  generalize hw1 : (w.setCell ⟨c, 7, none⟩ (.int .i64 1)).setCell ⟨c, 6, none⟩ (.int .i64 1) = w1
  have hs : (w.setCell ⟨c, 7, none⟩ (.int .i64 1)).heap[c]? = _ := setCell_block w c 7 (.int .i64 1) _ 236 H2.out
  have hs2 : w1.heap[c]? = some (.cells #[v0, v1, v2, v3, v4, .map (some m), .int .i64 1, .int .i64 1] 236 (0, 0)) := by rw [← hw1]; exact setCell_block _ c 6 (.int .i64 1) _ 236 hs
  have hm1 : w1.heap[m]? = some (.map #[] 0) := by rw [← hw1, Below.heap_setCell _ _ _ _ hcm, Below.heap_setCell _ _ _ _ hcm]; exact h3
  have hb1 : Hid (Below N w w1) := by rw [← hw1]; exact ((Below.refl _ _).setCell hc _).setCell hc _
  have e5 : w1.cell? ⟨c, 5, none⟩ = some (.map (some m)) := cell_of_heap hs2 rfl
  have e6 : w1.cell? ⟨c, 6, none⟩ = some (.int .i64 1) := cell_of_heap hs2 rfl
  have hl1 : c < w1.heap.size := lt_of_some hs2
  have hl2 : m < w1.heap.size := lt_of_some hm1
  clear hs hs2 hw1 c5 c6 c7 f6 f7 h3 hlen H2
  have hup : ∀ o1 o2 v, (Instr.mapUpdate 227 (.map (some m)) (.int .i64 1) v).run Tryz.prog ((w1.alloc o1).alloc o2).drew = .ok () (putMap ((w1.alloc o1).alloc o2).drew m #[{ key := .int .i64 1, val := v, born := 0 }] 1) :=
    fun o1 o2 v => run_mapUpdate_new (P := Tryz.prog) (w := ((w1.alloc o1).alloc o2).drew) (b := m) (es := #[]) (clock := 0) (key := .int .i64 1) Tryz.underlying227 Tryz.underlying3 (by simp [MapKept.IsKey]) (by show ((w1.alloc o1).alloc o2).heap[m]? = _; rw [Below.heap_alloc _ _ _ (by simp; omega), Below.heap_alloc _ _ _ hl2]; exact hm1) rfl v
  have e6' : ∀ o1 o2 es cl, (putMap ((w1.alloc o1).alloc o2).drew m es cl).cell? ⟨c, 6, none⟩ = some (.int .i64 1) := by
    intro o1 o2 es cl
    rw [World.cell?_of_block (w := w1) (by show (putMap ((w1.alloc o1).alloc o2).drew m es cl).heap[c]? = _; rw [putMap_other _ _ _ _ (Ne.symm hcm)]; show ((w1.alloc o1).alloc o2).heap[c]? = _; rw [Below.heap_alloc _ _ _ (by simp; omega), Below.heap_alloc _ _ _ hl1])]
    exact e6
  clear hm1
  go_region
  go_wp2
  go_ret2
  exact ⟨rfl, below_putMap (((hb1.out.alloc (Nat.le_trans hN hb1.out.size) _).alloc (by have := hb1.out.size; simp; omega) _).drew) hm _ _⟩

set_option maxHeartbeats 400000 in
theorem dead_not (a t : Nat) (v : Value) (w : World) (ca : w.cell? ⟨a, 2, none⟩ = some (.iface t v)) :
    Calls Tryz.prog 41 #[.pointer (some ⟨a, 0, none⟩)] w fun e w' => e = .returned (.bool false) ∧ w = w' := by
  go_enter Tryz.func41, Tryz.ntmps41
  go_wp2
  go_ret
  exact ⟨rfl, rfl⟩

set_option maxRecDepth 100000 in
set_option maxHeartbeats 1000000 in
theorem begin_steal (N : Nat) (a : Nat) (w : World) (h : StealAt N w a) (hN : N ≤ w.heap.size) :
    Calls Tryz.prog 19 #[.pointer (some ⟨a, 0, none⟩)] w fun e w' => e = .returned (.tuple #[.int .i64 1, .int .i64 0]) ∧ Below N w w' := by
  obtain ⟨c, x0, x1, ha, h1, m, v0, v1, v2, v3, v4, hc, hm, h2, h3⟩ := h
  have ca : w.cell? ⟨a, 2, none⟩ = some (.iface 234 (.pointer (some ⟨c, 0, none⟩))) := cell_of_heap (j := 2) h1 rfl
  have hme := meth_begin
  have K := coreBegin_first N c m w v0 v1 v2 v3 v4 hc hm hN h2 h3
  clear h1 h2 h3
  go_enter Tryz.func19, Tryz.ntmps19
  go_wp2_with (first | (go_at_call 41; refine (dead_not _ _ _ _ ca).mono ?_; rintro e w' ⟨rfl, rfl⟩) | (go_at_call 273; refine K.mono ?_; rintro e w' ⟨rfl, hb⟩))
  go_ret2
  exact ⟨rfl, hb⟩
end Go.Proofs.YtihbngfbcnojcaaGreat
