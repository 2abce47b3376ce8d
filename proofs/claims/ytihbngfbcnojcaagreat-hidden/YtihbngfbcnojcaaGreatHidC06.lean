import Derived.Test.YtihbngfbcnojcaaGreatHidC05
import Derived.WalkKit
import Derived.WideMake
import Derived.Maps.OwnSet
import Derived.Maps.OwnOps
import Derived.Maps.RangeWalk
import Derived.Maps.Views
import Derived.StringKeys
namespace Go.Proofs.YtihbngfbcnojcaaGreat
open Go.RowKit

/-- A volume's cells: the disk, the start, the count of stamps, the newer master record. -/
def volCells (db : Nat) (start count turn : Int) : Array Value := #[.pointer (some ⟨db, 0, none⟩), .int .u32 start, .int .u32 count, .int .i64 turn]

theorem setCell_block (w : World) (b j : Nat) (u : Value) (cs : Array Value) (t : TypeId) (h : w.heap[b]? = some (.cells cs t (0, 0))) :
    (w.setCell ⟨b, j, none⟩ u).heap[b]? = some (.cells (cs.setIfInBounds j u) t (0, 0)) := by
  rw [setCell_eq_setRow w b j cs t (0, 0) u h]
  exact setRow_heap w b cs _ t (0, 0) h

set_option maxHeartbeats 400000 in
theorem other_any (t : Int) (w : World) (h0 : 0 ≤ t) (h1 : t < 2) :
    Calls Tryz.prog 122 #[.int .i64 t] w fun e w' => e = .returned (.int .i64 (1 - t)) ∧ w = w' := by
  have hc : t = 0 ∨ t = 1 := by omega
  rcases hc with rfl | rfl
  all_goals
    go_enter Tryz.func122, Tryz.ntmps122
    go_wp2
    go_ret
    exact ⟨rfl, rfl⟩

set_option maxHeartbeats 400000 in
theorem masterAt_any (t : Int) (w : World) :
    Calls Tryz.prog 108 #[.int .i64 t] w fun e w' => e = .returned (.int .i64 t) ∧ w = w' := by
  go_enter Tryz.func108, Tryz.ntmps108
  go_wp2
  go_ret
  exact ⟨rfl, rfl⟩

set_option maxHeartbeats 1000000 in
theorem stamp_any (vb db : Nat) (start count turn : Int) (w : World) (hc : 0 ≤ count) (hc' : count < 4294967295) (hv : w.heap[vb]? = some (.cells (volCells db start count turn) 126 (0, 0))) :
    Calls Tryz.prog 124 #[.pointer (some ⟨vb, 0, none⟩)] w fun e w' => e = .returned (.agg #[.int .u32 start, .int .u32 (count + 1)]) ∧ w'.heap[vb]? = some (.cells (volCells db start (count + 1) turn) 126 (0, 0)) ∧ (∀ k, k < w.heap.size → k ≠ vb → w'.heap[k]? = w.heap[k]?) ∧ Below 0 w w' := by
  have hx : IntKind.u32.wrap (count + 1) = count + 1 := by rw [IntKind.wrap_u32]; omega
  have c1 : w.cell? ⟨vb, 1, none⟩ = some (.int .u32 start) := cell_at hv rfl
  have c2 : w.cell? ⟨vb, 2, none⟩ = some (.int .u32 count) := cell_at hv rfl
  have f2 := frozen_at 2 hv
  have HV : Hid (w.heap[vb]? = some (.cells (volCells db start count turn) 126 (0, 0))) := hv
  have hvw : vb < w.heap.size := lt_of_block' hv
  have hB0 : Below w.heap.size w (w.alloc (.cells #[.int .u32 0, .int .u32 0] 168)) := (Below.refl _ _).alloc (Nat.le_refl _) _
  have d1 := (hB0.cell hvw).trans c1
  have d2 := (hB0.cell hvw).trans c2
  have g2 := (hB0.frozen hvw).trans f2
  clear hv c1 c2 f2
  go_enter Tryz.func124, Tryz.ntmps124
  go_wp2
  have hv1 : ((w.setCell ⟨vb, 2, none⟩ (.int .u32 (count + 1))).alloc (.cells #[.int .u32 0, .int .u32 0] 168)).heap[vb]? = some (.cells (volCells db start (count + 1) turn) 126 (0, 0)) := by
    rw [Below.heap_alloc _ _ _ (by simpa using hvw), setCell_block w vb 2 _ _ _ HV.out]; rfl
  have hn1 : ((w.setCell ⟨vb, 2, none⟩ (.int .u32 (count + 1))).alloc (.cells #[.int .u32 0, .int .u32 0] 168)).heap[w.heap.size]? = some (.cells #[.int .u32 0, .int .u32 0] 168 (0, 0)) := by
    have := heap_alloc_new (w.setCell ⟨vb, 2, none⟩ (.int .u32 (count + 1))) (.cells #[.int .u32 0, .int .u32 0] 168); simpa using this
  have ho1 : ∀ k, k < w.heap.size → k ≠ vb → ((w.setCell ⟨vb, 2, none⟩ (.int .u32 (count + 1))).alloc (.cells #[.int .u32 0, .int .u32 0] 168)).heap[k]? = w.heap[k]? := fun k h1 h2 => by
    rw [Below.heap_alloc _ _ _ (by simpa using h1), Below.heap_setCell _ _ _ _ h2]
  have hb1 : Below 0 w ((w.setCell ⟨vb, 2, none⟩ (.int .u32 (count + 1))).alloc (.cells #[.int .u32 0, .int .u32 0] 168)) := ((Below.refl _ _).setCell (p := ⟨vb, 2, none⟩) (by simp) _).alloc (by simp) _
  revert hv1 hn1 ho1 hb1
  generalize (w.setCell ⟨vb, 2, none⟩ (.int .u32 (count + 1))).alloc (.cells #[.int .u32 0, .int .u32 0] 168) = w1
  intro hv1 hn1 ho1 hb1
  have c1 : w1.cell? ⟨vb, 1, none⟩ = some (.int .u32 start) := cell_at hv1 rfl
  have c2 : w1.cell? ⟨vb, 2, none⟩ = some (.int .u32 (count + 1)) := cell_at hv1 rfl
  have n0 : w1.cell? ⟨w.heap.size, 0, none⟩ = some (.int .u32 0) := cell_at hn1 rfl
  have n1 : w1.cell? ⟨w.heap.size, 1, none⟩ = some (.int .u32 0) := cell_at hn1 rfl
  have f0 := frozen_at 0 hn1
  have f1 := frozen_at 1 hn1
  have HV1 : Hid (w1.heap[vb]? = some (.cells (volCells db start (count + 1) turn) 126 (0, 0))) := hv1
  have HO1 : Hid (∀ k, k < w.heap.size → k ≠ vb → w1.heap[k]? = w.heap[k]?) := ho1
  have HB1 : Hid (Below 0 w w1) := hb1
  have HN1 : Hid (w1.heap[w.heap.size]? = some (.cells #[.int .u32 0, .int .u32 0] 168 (0, 0))) := hn1
  clear hv1 hn1 ho1 hb1 d1 d2 g2 hB0 HV
  go_region
  have HF : Hid (((w1.setCell ⟨w.heap.size, 0, none⟩ (.int .u32 start)).setCell ⟨w.heap.size, 1, none⟩ (.int .u32 (count + 1))).drew.heap[w.heap.size]? = some (.cells #[.int .u32 start, .int .u32 (count + 1)] 168 (0, 0))) := by
    exact (setCell_block _ _ 1 _ _ _ (setCell_block _ _ 0 _ _ _ HN1.out)).trans rfl
  all_goals
    go_wp2
    refine bodyPost_ret (v := .agg #[.int .u32 start, .int .u32 (count + 1)]) ?_ rfl ⟨rfl, ?_, fun k h1 h2 => ?_, ?_⟩
    · exact results_cell_row Tryz.results124 _ _ w.heap.size 168 #[.int .u32 start, .int .u32 (count + 1)] (0, 0) _ rfl HF.out Tryz.underlying168 rfl (by kernel_rfl)
    · exact (Below.heap_setCell _ _ _ _ (show vb ≠ w.heap.size by omega)).trans ((Below.heap_setCell _ _ _ _ (show vb ≠ w.heap.size by omega)).trans HV1.out)
    · exact (Below.heap_setCell _ _ _ _ (show k ≠ w.heap.size by omega)).trans ((Below.heap_setCell _ _ _ _ (show k ≠ w.heap.size by omega)).trans (HO1.out k h1 h2))
    · exact ((HB1.out.setCell (p := ⟨w.heap.size, 0, none⟩) (by simp) _).setCell (p := ⟨w.heap.size, 1, none⟩) (by simp) _).drew

theorem owns_wide {w : World} {base : Nat} {e : TypeId} {size : Nat} {v : Value} {n : Nat} {xs : List Value} (h : w.ownsRow base e size v n xs) (h0 : 0 < n) :
    ∃ g cap cur, v = .slice (some ⟨g, 0, none⟩) n cap ∧ base ≤ g ∧ w.heap[g]? = some (.cells cur e (0, 0)) ∧ n ≤ cap ∧ (∀ (j : Nat) u, xs[j]? = some u → cur[j]? = some u) := by
  rcases h.2 with ⟨_, h⟩ | ⟨g, cap, cur, h1, h2, h3, h4, _, _, h5⟩
  · omega
  · refine ⟨g, cap, cur, h1, h2, h3, h4, fun j u hu => ?_⟩
    rw [← h5, List.getElem?_take] at hu
    split at hu
    · simpa using hu
    · cases hu
theorem fillC_set : ∀ (S : List Value) (C : Array Value) (o i : Nat) (x : Value), (i < o ∨ o + S.length ≤ i) → fillC (C.setIfInBounds i x) o S = (fillC C o S).setIfInBounds i x
  | [], _, _, _, _, _ => rfl
  | v :: r, C, o, i, x, h => by
    have hne : i ≠ o := by simp at h; omega
    rw [fillC, fillC, Array.setIfInBounds_comm x v hne, fillC_set r _ (o + 1) i x (by simp at h; omega)]

theorem packMaster_any' (a b log mode : Int) (w : World) (ha : 0 ≤ a) (ha' : a < 4294967296) (hb : 0 ≤ b) (hb' : b < 4294967296) (hl : 0 ≤ log) (hl' : log < 4294967296) (hm : 0 ≤ mode) (hm' : mode < 256) :
    Calls Tryz.prog 123 #[.agg #[.int .u32 a, .int .u32 b], .agg #[.int .u32 log, .int .i64 mode]] w fun r w' => ∃ S : List Value, r = .returned (.agg S.toArray) ∧ Hid (S = sealed a b (masterBody log mode)) ∧ Hid (S.length = 64) ∧ Hid (∀ u ∈ S, u.oneCell' = true) ∧ Below w.heap.size w w' := by
  refine (packMaster_any a b log mode w ha ha' hb hb' hl hl' hm hm').mono ?_
  rintro e w' ⟨rfl, hb⟩
  exact ⟨_, rfl, rfl, sealed_length a b _ (by rw [masterBody_length]; omega), sealed_one a b _ (masterBody_one log mode), hb⟩

set_option maxRecDepth 100000 in
set_option maxHeartbeats 2000000 in
theorem mark_any (vb db : Nat) (start count turn log mode : Int) (D : Array Value) (w : World) (hs : 0 ≤ start) (hs' : start < 4294967296) (hc : 0 ≤ count) (hc' : count < 4294967295) (ht : 0 ≤ turn) (ht' : turn < 2) (hl : 0 ≤ log) (hl' : log < 4294967296) (hm : 0 ≤ mode) (hm' : mode < 256)
    (hne : vb ≠ db) (hv : w.heap[vb]? = some (.cells (volCells db start count turn) 126 (0, 0))) (hD : w.heap[db]? = some (.cells D 103 (0, 0))) (hDz : D.size = 27779) (hDv : D[27776]? = some (.slice none 0 0)) (hDf : D[27777]? = some (.int .i64 0)) :
    Calls Tryz.prog 85 #[.pointer (some ⟨vb, 0, none⟩), .agg #[.int .u32 log, .int .i64 mode]] w fun e w' => e = .returned (.tuple #[]) ∧ w'.heap[vb]? = some (.cells (volCells db start (count + 1) (1 - turn)) 126 (0, 0)) ∧
      w'.heap[db]? = some (.cells ((fillC D ((1 - turn).toNat * 64) (sealed start (count + 1) (masterBody log mode))).setIfInBounds 27776 (.slice none 0 0)) 103 (0, 0)) ∧ (∀ k, k < w.heap.size → k ≠ vb → k ≠ db → w'.heap[k]? = w.heap[k]?) ∧ Below 0 w w' := by
  have c0 : w.cell? ⟨vb, 0, none⟩ = some (.pointer (some ⟨db, 0, none⟩)) := cell_at hv rfl
  have c3 : w.cell? ⟨vb, 3, none⟩ = some (.int .i64 turn) := cell_at hv rfl
  have f3 := frozen_at 3 hv
  have HV : Hid (w.heap[vb]? = some (.cells (volCells db start count turn) 126 (0, 0))) := hv
  have HD : Hid (w.heap[db]? = some (.cells D 103 (0, 0))) := hD
  have HDv : Hid (D.size = 27779 ∧ D[27776]? = some (.slice none 0 0) ∧ D[27777]? = some (.int .i64 0)) := ⟨hDz, hDv, hDf⟩
  have hvw : vb < w.heap.size := lt_of_block' hv
  have hB0 : Below w.heap.size w (w.alloc (.cells #[.int .u32 log, .int .i64 mode] 133)) := (Below.refl _ _).alloc (Nat.le_refl _) _
  have d3 := (hB0.cell hvw).trans c3
  have g3 := (hB0.frozen hvw).trans f3
  clear hv hD hDz hDv hDf c0 c3 f3 hB0
  go_enter Tryz.func85, Tryz.ntmps85
  go_wp2_with (first | (go_at_call 122; refine (other_any _ _ ht ht').mono ?_; rintro e w' ⟨rfl, rfl⟩))
  have hv1 : ((w.setCell ⟨vb, 3, none⟩ (.int .i64 (1 - turn))).alloc (.cells #[.int .u32 log, .int .i64 mode] 133)).heap[vb]? = some (.cells (volCells db start count (1 - turn)) 126 (0, 0)) := by
    rw [Below.heap_alloc _ _ _ (by simpa using hvw), setCell_block w vb 3 _ _ _ HV.out]; rfl
  have hm1 : ((w.setCell ⟨vb, 3, none⟩ (.int .i64 (1 - turn))).alloc (.cells #[.int .u32 log, .int .i64 mode] 133)).heap[w.heap.size]? = some (.cells #[.int .u32 log, .int .i64 mode] 133 (0, 0)) := by
    have := heap_alloc_new (w.setCell ⟨vb, 3, none⟩ (.int .i64 (1 - turn))) (.cells #[.int .u32 log, .int .i64 mode] 133); simpa using this
  have ho1 : ∀ k, k < w.heap.size → k ≠ vb → ((w.setCell ⟨vb, 3, none⟩ (.int .i64 (1 - turn))).alloc (.cells #[.int .u32 log, .int .i64 mode] 133)).heap[k]? = w.heap[k]? := fun k h1 h2 => by
    rw [Below.heap_alloc _ _ _ (by simpa using h1), Below.heap_setCell _ _ _ _ h2]
  have hb1 : Below 0 w ((w.setCell ⟨vb, 3, none⟩ (.int .i64 (1 - turn))).alloc (.cells #[.int .u32 log, .int .i64 mode] 133)) := ((Below.refl _ _).setCell (p := ⟨vb, 3, none⟩) (by simp) _).alloc (by simp) _
  have hz1 : ((w.setCell ⟨vb, 3, none⟩ (.int .i64 (1 - turn))).alloc (.cells #[.int .u32 log, .int .i64 mode] 133)).heap.size = w.heap.size + 1 := by simp
  revert hv1 hm1 ho1 hb1 hz1
  generalize (w.setCell ⟨vb, 3, none⟩ (.int .i64 (1 - turn))).alloc (.cells #[.int .u32 log, .int .i64 mode] 133) = w1
  intro hv1 hm1 ho1 hb1 hz1
  have hdw : db < w.heap.size := lt_of_block' HD.out
  have HD1 : Hid (w1.heap[db]? = some (.cells D 103 (0, 0))) := (ho1 db hdw (Ne.symm hne)).trans HD.out
  have c0 : w1.cell? ⟨vb, 0, none⟩ = some (.pointer (some ⟨db, 0, none⟩)) := cell_at hv1 rfl
  have c3 : w1.cell? ⟨vb, 3, none⟩ = some (.int .i64 (1 - turn)) := cell_at hv1 rfl
  have m0 : w1.cell? ⟨w.heap.size, 0, none⟩ = some (.int .u32 log) := cell_at hm1 rfl
  have m1 : w1.cell? ⟨w.heap.size, 1, none⟩ = some (.int .i64 mode) := cell_at hm1 rfl
  have HV1 : Hid (w1.heap[vb]? = some (.cells (volCells db start count (1 - turn)) 126 (0, 0))) := hv1
  have HM1 : Hid (w1.heap[w.heap.size]? = some (.cells #[.int .u32 log, .int .i64 mode] 133 (0, 0))) := hm1
  have HZ1 : Hid (w1.heap.size = w.heap.size + 1) := hz1
  have HO1 : Hid (∀ k, k < w.heap.size → k ≠ vb → w1.heap[k]? = w.heap[k]?) := ho1
  have HB1 : Hid (Below 0 w w1) := hb1
  clear hv1 hm1 ho1 hb1 hz1 d3 g3
  go_region_held3 (fun w' => w'.cell? ⟨vb, 0, none⟩ = some (.pointer (some ⟨db, 0, none⟩)) ∧ w'.cell? ⟨vb, 3, none⟩ = some (.int .i64 (1 - turn)) ∧ w'.cell? ⟨w.heap.size, 0, none⟩ = some (.int .u32 log) ∧ w'.cell? ⟨w.heap.size, 1, none⟩ = some (.int .i64 mode))
    (go_keep)
    (first
      | (go_at_call 108; refine (masterAt_any _ _).mono ?_; rintro e w' ⟨rfl, rfl⟩)
      | (go_at_call 124; go_must (
          refine (stamp_any vb db start count (1 - turn) w1.drew hc hc' HV1.out).mono ?_
          rintro e w2 ⟨rfl, hv2, ho2, hb2⟩
          have hm2 := (ho2 w.heap.size (by have := HZ1.out; simp; omega) (by omega)).trans HM1.out
          have HV2 : Hid (w2.heap[vb]? = some (.cells (volCells db start (count + 1) (1 - turn)) 126 (0, 0))) := hv2
          have HD2 : Hid (w2.heap[db]? = some (.cells D 103 (0, 0))) := (ho2 db (by have := HZ1.out; simp; omega) (Ne.symm hne)).trans HD1.out
          have HO2 : Hid (∀ k, k < w.heap.size → k ≠ vb → w2.heap[k]? = w.heap[k]?) := fun k h1 h2 => (ho2 k (by have := HZ1.out; simp; omega) h2).trans (HO1.out k h1 h2)
          have HB2 : Hid (Below 0 w w2) := HB1.out.trans ((Below.refl _ _).drew.trans hb2)
          have HM2 : Hid (w2.heap[w.heap.size]? = some (.cells #[.int .u32 log, .int .i64 mode] 133 (0, 0))) := hm2
          have c0' : w2.cell? ⟨vb, 0, none⟩ = some (.pointer (some ⟨db, 0, none⟩)) := cell_at hv2 rfl
          have c3' : w2.cell? ⟨vb, 3, none⟩ = some (.int .i64 (1 - turn)) := cell_at hv2 rfl
          have m0' : w2.cell? ⟨w.heap.size, 0, none⟩ = some (.int .u32 log) := cell_at hm2 rfl
          have m1' : w2.cell? ⟨w.heap.size, 1, none⟩ = some (.int .i64 mode) := cell_at hm2 rfl
          clear hv2 ho2 hb2 hm2))
      | (go_at_call 123; go_must (
          refine (packMaster_any' start (count + 1) log mode w2 hs hs' (by omega) (by omega) hl hl' hm hm').mono ?_
          rintro e w3 ⟨S, rfl, HSS, HSL, HS1, hb3⟩
          have HV3 : Hid (w3.heap[vb]? = some (.cells (volCells db start (count + 1) (1 - turn)) 126 (0, 0))) := (hb3.block _ (lt_of_block' HV2.out)).trans HV2.out
          have HM3 : Hid (w3.heap[w.heap.size]? = some (.cells #[.int .u32 log, .int .i64 mode] 133 (0, 0))) := (hb3.block _ (lt_of_block' HM2.out)).trans HM2.out
          have HD3 : Hid (w3.heap[db]? = some (.cells D 103 (0, 0))) := (hb3.block _ (lt_of_block' HD2.out)).trans HD2.out
          have HO3 : Hid (∀ k, k < w.heap.size → k ≠ vb → w3.heap[k]? = w.heap[k]?) := fun k h1 h2 => (hb3.block _ (by have := HB2.out.size; omega)).trans (HO2.out k h1 h2)
          have HB3 : Hid (Below 0 w w3) := HB2.out.trans (hb3.mono (by omega))
          have c0'' : w3.cell? ⟨vb, 0, none⟩ = some (.pointer (some ⟨db, 0, none⟩)) := cell_at HV3.out rfl
          have c3'' : w3.cell? ⟨vb, 3, none⟩ = some (.int .i64 (1 - turn)) := cell_at HV3.out rfl
          have m0'' : w3.cell? ⟨w.heap.size, 0, none⟩ = some (.int .u32 log) := cell_at HM3.out rfl
          have m1'' : w3.cell? ⟨w.heap.size, 1, none⟩ = some (.int .i64 mode) := cell_at HM3.out rfl
          clear hb3))
      | (go_at_call 119; go_must (
          refine (diskWrite_any db w3.heap.size 0 (.slice none 0 0) [] (1 - turn) S D w3 HSL.out HS1.out (lt_of_block' HD3.out) (Nat.le_refl _) (World.ownsRow_nil _ _ _ _) (by omega) HD3.out HDv.out.2.1 HDv.out.2.2).mono ?_
          rintro e w4 ⟨rfl, g, cap, hown, hd4, ho4, hg4, hb4⟩
          have HV4 : Hid (w4.heap[vb]? = some (.cells (volCells db start (count + 1) (1 - turn)) 126 (0, 0))) := (ho4 _ (lt_of_block' HV3.out) hne (by simp [Value.ownBlock])).trans HV3.out
          have HM4 : Hid (w4.heap[w.heap.size]? = some (.cells #[.int .u32 log, .int .i64 mode] 133 (0, 0))) := (ho4 _ (lt_of_block' HM3.out) (by omega) (by simp [Value.ownBlock])).trans HM3.out
          have HO4 : Hid (∀ k, k < w.heap.size → k ≠ vb → k ≠ db → w4.heap[k]? = w.heap[k]?) := fun k h1 h2 h3 => (ho4 _ (by have := HB3.out.size; omega) h3 (by simp [Value.ownBlock])).trans (HO3.out k h1 h2)
          have HB4 : Hid (Below 0 w w4) := HB3.out.trans hb4
          have HW4 : Hid (w4.ownsRow w3.heap.size 143 65 (.slice (some ⟨g, 0, none⟩) (0 + 1) cap) (0 + 1) ([] ++ (Value.int .i64 (1 - turn) :: S))) := hown
          have HD4 : Hid (w4.heap[db]? = some (.cells (D.setIfInBounds 27776 (.slice (some ⟨g, 0, none⟩) (0 + 1) cap)) 103 (0, 0))) := hd4
          have c04 : w4.cell? ⟨vb, 0, none⟩ = some (.pointer (some ⟨db, 0, none⟩)) := cell_at HV4.out rfl
          have c34 : w4.cell? ⟨vb, 3, none⟩ = some (.int .i64 (1 - turn)) := cell_at HV4.out rfl
          have m04 : w4.cell? ⟨w.heap.size, 0, none⟩ = some (.int .u32 log) := cell_at HM4.out rfl
          have m14 : w4.cell? ⟨w.heap.size, 1, none⟩ = some (.int .i64 mode) := cell_at HM4.out rfl
          clear hown hd4 ho4 hg4 hb4)))
  have HT : Hid (((1 - turn).toNat : Int) = 1 - turn) := Int.toNat_of_nonneg (by omega)
  obtain ⟨g7, cap7, cur7, hsl, hg7b, hg7h, hc7, hcur⟩ := owns_wide HW4.out (by omega)
  simp only [Value.slice.injEq, Option.some.injEq, Addr.mk.injEq, and_true, true_and] at hsl
  obtain ⟨rfl, rfl⟩ := hsl
  have HX : Hid (∀ (j : Nat) u, (rowOf [((1 - turn).toNat, S)])[j]? = some u → cur7[j]? = some u) := by
    intro j u hu
    refine hcur j u ?_
    simpa [rowOf, HT.out] using hu
  have HOK : Hid (WsOk [((1 - turn).toNat, S)]) := by
    intro p hp
    simp at hp
    subst hp
    exact ⟨by show (1 - turn).toNat < 434; omega, HSL.out, HS1.out⟩
  have HG : Hid (w4.heap[g]? = some (.cells cur7 143 (0, 0)) ∧ w3.heap.size ≤ g) := ⟨hg7h, hg7b⟩
  have HDL : Hid (db < w3.heap.size) := lt_of_block' HD3.out
  clear hg7b hg7h hc7 hcur
  go_wp2_with (first
    | (go_at_call 117; go_must (
        refine (diskSync_any db w3.heap.size g cap [((1 - turn).toNat, S)] _ cur7 w4 HDL.out HG.out.2 HOK.out (by simp) HD4.out ?hz ?hv HG.out.1 HX.out).mono ?_
        case hz => simp; exact HDv.out.1
        case hv => simp [HDv.out.1]
        rintro e w5 ⟨rfl, hd5, ho5, hb5⟩
        have HV5 : Hid (w5.heap[vb]? = some (.cells (volCells db start (count + 1) (1 - turn)) 126 (0, 0))) := (ho5 _ (lt_of_block' HV4.out) hne).trans HV4.out
        have HO5 : Hid (∀ k, k < w.heap.size → k ≠ vb → k ≠ db → w5.heap[k]? = w.heap[k]?) := fun k h1 h2 h3 => (ho5 _ (by have := HB4.out.size; omega) h3).trans (HO4.out k h1 h2 h3)
        have HB5 : Hid (Below 0 w w5) := HB4.out.trans hb5
        have HD5 : Hid (w5.heap[db]? = some (.cells ((fillC D ((1 - turn).toNat * 64) (sealed start (count + 1) (masterBody log mode))).setIfInBounds 27776 (.slice none 0 0)) 103 (0, 0))) := by
          show _ = _
          rw [hd5, ← HSS.out]
          simp only [applyW, List.foldl_cons, List.foldl_nil]
          rw [fillC_set _ _ _ _ _ (Or.inr (by rw [HSL.out]; omega))]
          simp
        clear hd5 ho5 hb5)))
  go_end0
  exact ⟨rfl, HV5.out, HD5.out, HO5.out, HB5.out⟩
end Go.Proofs.YtihbngfbcnojcaaGreat

namespace Go.Proofs.YtihbngfbcnojcaaGreat
open Go.RowKit

/-- The disk at db: its lasting bytes, and its unsynced writes. -/
def DiskIs (w : World) (db : Nat) (D : Array Value) (ws : List (Nat × List Value)) (v : Value) : Prop :=
  w.heap[db]? = some (.cells D 103 (0, 0)) ∧ D.size = 27779 ∧ D[27776]? = some v ∧ UnsAt w v ws ∧ WsOk ws ∧ ws.length ≤ 100000 ∧ (∀ i u, i < 27776 → D[i]? = some u → IsByte u) ∧ (∀ p ∈ ws, ∀ u ∈ p.2, IsByte u)

theorem isByte_one {u : Value} (h : IsByte u) : u.oneCell' = true := by obtain ⟨x, rfl, _⟩ := h; rfl

theorem DiskIs.below {w w' : World} {db : Nat} {D : Array Value} {ws : List (Nat × List Value)} {v : Value} (h : DiskIs w db D ws v) (hb : Below w.heap.size w w') : DiskIs w' db D ws v := by
  obtain ⟨h1, h2, h3, h4, h5⟩ := h
  exact ⟨(hb.block _ (lt_of_block' h1)).trans h1, h2, h3, h4.below hb, h5⟩

theorem extract_byte {D : Array Value} (hz : D.size = 27779) (hb : ∀ i u, i < 27776 → D[i]? = some u → IsByte u) {a : Nat} (ha : a < 434) : ∀ u ∈ D.extract (a * 64) (a * 64 + 64), IsByte u := by
  intro u hu
  obtain ⟨i, hi, rfl⟩ := Array.mem_iff_getElem.1 hu
  rw [Array.size_extract] at hi
  rw [Array.getElem_extract]
  exact hb (a * 64 + i) _ (by omega) (Array.getElem?_eq_getElem (by omega))

theorem readW_facts {w : World} {db : Nat} {D : Array Value} {ws : List (Nat × List Value)} {v : Value} (h : DiskIs w db D ws v) {a : Nat} (ha : a < 434) : (readW D ws a).length = 64 ∧ ∀ u ∈ readW D ws a, IsByte u := by
  obtain ⟨_, h2, _, _, h5, _, h7, h8⟩ := h
  unfold readW
  split
  · rename_i p hp
    have hm : p ∈ ws := List.mem_reverse.1 (List.mem_of_find?_eq_some hp)
    exact ⟨(h5 p hm).2.1, h8 p hm⟩
  · refine ⟨?_, fun u hu => extract_byte h2 h7 ha u (Array.mem_toList_iff.1 hu)⟩
    rw [Array.length_toList, Array.size_extract]; omega

theorem diskRead_is {w : World} {db : Nat} {D : Array Value} {ws : List (Nat × List Value)} {v : Value} (h : DiskIs w db D ws v) (a : Nat) (ha : a < 434) :
    Calls Tryz.prog 107 #[.pointer (some ⟨db, 0, none⟩), .int .i64 (a : Int)] w fun e w' => e = .returned (.agg (readW D ws a).toArray) ∧ Below w.heap.size w w' := by
  obtain ⟨h1, h2, h3, h4, h5, h6, h7, h8⟩ := h
  exact diskRead_any db a ws v D w ha h5 h6 h1 h2 h3 h4 (fun u hu => isByte_one (extract_byte h2 h7 ha u hu))

set_option maxHeartbeats 400000 in
theorem pageAt_any (n t : Nat) (w : World) (hn : n ≤ 100) (ht : t ≤ 10) :
    Calls Tryz.prog 164 #[.int .i64 (n : Int), .int .i64 (t : Int)] w fun e w' => e = .returned (.int .i64 ((2 + (n * 2 + t) * 2 : Nat) : Int)) ∧ w = w' := by
  have e1 : wrap64 ((n : Int) * 2) = (n : Int) * 2 := by simp only [wrap64]; omega
  have e2 : wrap64 ((n : Int) * 2 + t) = (n : Int) * 2 + t := by simp only [wrap64]; omega
  have e3 : wrap64 (((n : Int) * 2 + t) * 2) = ((n : Int) * 2 + t) * 2 := by simp only [wrap64]; omega
  have e4 : wrap64 (2 + ((n : Int) * 2 + t) * 2) = 2 + ((n : Int) * 2 + t) * 2 := by simp only [wrap64]; omega
  go_enter Tryz.func164, Tryz.ntmps164
  go_wp2_with (first | (go_at_call 108; refine (masterAt_any _ _).mono ?_; rintro e w' ⟨rfl, rfl⟩))
  go_ret
  exact ⟨by simp, rfl⟩

/-- What pool.read has put together behind k rounds. -/
def readUp (R0 R1 : List Value) : Nat → List Value
  | 0 => List.replicate 64 (.int .u8 0) ++ List.replicate 64 (.int .u8 0)
  | 1 => R0 ++ List.replicate 64 (.int .u8 0)
  | _ => R0 ++ R1

theorem fill_mid (A B C X : List Value) (h : B.length = X.length) : fillC (A ++ B ++ C).toArray A.length X = (A ++ X ++ C).toArray := by
  apply Array.ext_getElem?
  intro j
  rw [fillC_at, List.getElem?_toArray, List.getElem?_toArray]
  by_cases h1 : j < A.length
  · rw [if_neg (by omega), List.append_assoc, List.append_assoc, List.getElem?_append_left h1, List.getElem?_append_left h1]
  · by_cases h2 : j < A.length + X.length
    · rw [if_pos ⟨by omega, h2, by simp; omega⟩, List.append_assoc, List.getElem?_append_right (by omega), List.getElem?_append_left (by omega)]
    · rw [if_neg (by omega), List.getElem?_append_right (by simp; omega), List.getElem?_append_right (by simp; omega)]
      simp [h]

theorem setRow_below (w : World) (b : Nat) (cs : Array Value) : Below b w (w.setRow b cs) := by
  refine ⟨rfl, rfl, rfl, by simp [World.setRow], fun k hk => ?_⟩
  exact setRow_other w b k cs (by omega)
theorem zeroCopy : Tryz.zeroCells256 = (readUp [] [] 0).toArray := by kernel_rfl

set_option maxRecDepth 100000 in
set_option maxHeartbeats 1000000 in
theorem poolRead_any (pb o vb db n t : Nat) (D : Array Value) (ws : List (Nat × List Value)) (v : Value) (w : World) (hn : n < 8) (ht : t < 2) (hp : w.cell? ⟨pb, o, none⟩ = some (.pointer (some ⟨vb, 0, none⟩))) (hv : w.cell? ⟨vb, 0, none⟩ = some (.pointer (some ⟨db, 0, none⟩)))
    (hpw : pb < w.heap.size) (hvw : vb < w.heap.size) (hd : DiskIs w db D ws v) :
    Calls Tryz.prog 189 #[.pointer (some ⟨pb, o, none⟩), .int .i64 (n : Int), .int .i64 (t : Int)] w fun e w' => e = .returned (.agg (readW D ws (2 + (n * 2 + t) * 2) ++ readW D ws (2 + (n * 2 + t) * 2 + 1)).toArray) ∧ Below w.heap.size w w' := by
  obtain ⟨l0, y0⟩ := readW_facts hd (a := 2 + (n * 2 + t) * 2) (by omega)
  obtain ⟨l1, y1⟩ := readW_facts hd (a := 2 + (n * 2 + t) * 2 + 1) (by omega)
  have HRD : Hid (∀ W, Below w.heap.size w W → ∀ a : Nat, a < 434 → Calls Tryz.prog 107 #[.pointer (some ⟨db, 0, none⟩), .int .i64 (a : Int)] W fun e w' => e = .returned (.agg (readW D ws a).toArray) ∧ Below W.heap.size W w') := fun W hW a ha => diskRead_is (hd.below hW) a ha
  have HC : Hid (∀ W, Below w.heap.size w W → W.cell? ⟨pb, o, none⟩ = some (.pointer (some ⟨vb, 0, none⟩)) ∧ W.cell? ⟨vb, 0, none⟩ = some (.pointer (some ⟨db, 0, none⟩))) := fun W hW => ⟨(hW.cell (p := ⟨pb, o, none⟩) hpw).trans hp, (hW.cell (p := ⟨vb, 0, none⟩) hvw).trans hv⟩
  clear hd
  obtain ⟨A, hA⟩ : ∃ A : Nat, 2 + (n * 2 + t) * 2 = A := ⟨_, rfl⟩
  have hA4 : A + 1 < 434 := by omega
  have KP := fun W => pageAt_any n t W (by omega) (by omega)
  rw [hA] at l0 y0 l1 y1 KP ⊢
  have HKP := @id (Hid (∀ w, Calls _ _ _ w _)) KP
  have HY0 : Hid (∀ u ∈ readW D ws A, IsByte u) := y0
  have HY1 : Hid (∀ u ∈ readW D ws (A + 1), IsByte u) := y1
  clear hA KP y0 y1
  go_enter Tryz.func189, Tryz.ntmps189
  go_wp2
  rw [zeroCopy]
  obtain ⟨W1, hW1⟩ : ∃ W1, (w.alloc (.cells (readUp [] [] 0).toArray 256)).alloc (.cells (readUp [] [] 0).toArray 256) = W1 := ⟨_, rfl⟩
  have b0 : W1.heap[w.heap.size]? = some (.cells (readUp [] [] 0).toArray 256 (0, 0)) := by rw [← hW1, Below.heap_alloc _ _ _ (by simp)]; exact heap_alloc_new w _
  have b1 : W1.heap[w.heap.size + 1]? = some (.cells (readUp [] [] 0).toArray 256 (0, 0)) := by rw [← hW1]; exact heap_alloc_new2 w _ _
  have hB1 : Below w.heap.size w W1 := by rw [← hW1]; exact ((Below.refl _ w).alloc (Nat.le_refl _) _).alloc (by simp) _
  rw [hW1]
  clear hW1
  go_loopw [9] (fun i wr => ∃ k : Nat, k ≤ 2 ∧ i = .int .i64 k ∧ wr.heap[w.heap.size + 1]? = some (.cells (readUp (readW D ws A) (readW D ws (A + 1)) k).toArray 256 (0, 0)) ∧ wr.heap[w.heap.size]? = some (.cells (readUp [] [] 0).toArray 256 (0, 0)) ∧ Below w.heap.size w wr) (fun i _ => 2 - (intOf i).toNat)
  case atStart => exact ⟨0, by omega, rfl, b1, b0, hB1⟩
  case round =>
    obtain ⟨k, hk, rfl, hc1, hc0, hbw⟩ := hrel
    clear b0 b1 hB1
    by_cases hlt : k < 2
    · have hlt' : (k : Int) < 2 := by omega
      obtain ⟨R, hR⟩ : ∃ R, readW D ws (A + k) = R := ⟨_, rfl⟩
      have hRl : R.length = 64 := by
        rw [← hR]
        match k, hlt with
        | 0, _ => exact l0
        | 1, _ => exact l1
      have hR1 : ∀ u ∈ R, u.oneCell' = true := by
        rw [← hR]
        match k, hlt with
        | 0, _ => exact fun u hu => isByte_one (HY0.out u hu)
        | 1, _ => exact fun u hu => isByte_one (HY1.out u hu)
      have hs128 : (readUp (readW D ws A) (readW D ws (A + 1)) k).length = 128 := by
        match k, hlt with
        | 0, _ => simp [readUp]
        | 1, _ => simp [readUp, l0]
      have HNX : Hid (fillC (readUp (readW D ws A) (readW D ws (A + 1)) k).toArray (k * 64) R = (readUp (readW D ws A) (readW D ws (A + 1)) (k + 1)).toArray) := by
        show _ = _
        match k, hlt with
        | 0, _ =>
          have := fill_mid [] (List.replicate 64 (Value.int .u8 0)) (List.replicate 64 (Value.int .u8 0)) R (by simp [hRl])
          simp only [readUp, List.nil_append, List.length_nil, Nat.zero_mul] at this ⊢
          rw [this, ← hR]; rfl
        | 1, _ =>
          have := fill_mid (readW D ws A) (List.replicate 64 (Value.int .u8 0)) [] R (by simp [hRl])
          simp only [readUp, List.append_nil, l0, Nat.one_mul] at this ⊢
          rw [this, ← hR]
      have hT : wr.there (w.heap.size + 1) (k * 64) R.toArray.size := there_at hc1 _ _ (by rw [List.size_toArray, List.size_toArray, hs128, hRl]; omega)
      have HT : Hid (∀ W, Below wr.heap.size wr W → W.there (w.heap.size + 1) (k * 64) R.toArray.size) := fun W hW => there_at ((hW.block _ (lt_of_block' hc1)).trans hc1) _ _ (by rw [List.size_toArray, List.size_toArray, hs128, hRl]; omega)
      have hw1 : IntKind.i64.wrap ((A : Int) + (k : Int)) = (A : Int) + (k : Int) := by rw [IntKind.wrap_i64]; omega
      have hAk : A + k < 434 := Nat.lt_of_le_of_lt (Nat.add_le_add_left (Nat.le_of_lt_succ hlt) A) hA4
      have hcast : ((A + k : Nat) : Int) = (A : Int) + (k : Int) := Int.natCast_add A k
      have KR : ∀ W, Below w.heap.size w W → Calls Tryz.prog 107 #[.pointer (some ⟨db, 0, none⟩), .int .i64 ((A : Int) + (k : Int))] W fun e w' => e = .returned (.agg R.toArray) ∧ Below W.heap.size W w' := fun W hW => by
        have := HRD.out W hW (A + k) hAk
        rw [hR, hcast] at this
        exact this
      have HKR := @id (Hid (∀ W, Below w.heap.size w W → Calls _ _ _ W _)) KR
      obtain ⟨hq1, hq2⟩ := HC.out wr hbw
      have HBW : Hid (Below w.heap.size w wr) := hbw
      have HC1 := @id (Hid _) hc1
      have HC0 := @id (Hid _) hc0
      have hi : (Tryz.prog.info? 98).map (·.size) = some R.length := by rw [hRl]; kernel_rfl
      clear KR hc1 hc0 hbw hR hs128 hp hv
      have hT2 : wr.drew.there (w.heap.size + 1) (k * 64) R.toArray.size := hT
      have hq3 : wr.drew.cell? ⟨pb, o, none⟩ = some (.pointer (some ⟨vb, 0, none⟩)) := hq1
      have hq4 : wr.drew.cell? ⟨vb, 0, none⟩ = some (.pointer (some ⟨db, 0, none⟩)) := hq2
      have HPV : Hid (pb < w.heap.size ∧ vb < w.heap.size) := ⟨hpw, hvw⟩
      have HKL : Hid (k < 2) := hlt
      clear l0 l1 hk hlt hAk hpw hvw hT hq1 hq2 hcast
      go_wp2
      go_region_held3 (fun w' => w'.cell? ⟨pb, o, none⟩ = some (.pointer (some ⟨vb, 0, none⟩)) ∧ w'.cell? ⟨vb, 0, none⟩ = some (.pointer (some ⟨db, 0, none⟩)) ∧ w'.there (w.heap.size + 1) (k * 64) R.toArray.size)
        (exact ⟨by assumption, by assumption, by assumption⟩)
        (first
          | (go_at_call 164; go_must (refine (HKP.out _).mono ?_; rintro e w' ⟨rfl, rfl⟩))
          | (go_at_call 107; go_must (
              refine (HKR.out _ HBW.out.drew).mono ?_
              rintro e w2 ⟨rfl, hb2⟩
              have HB2 : Hid (Below wr.heap.size wr w2) := (Below.refl _ _).drew.trans hb2
              obtain ⟨hr1, hr2⟩ := HC.out w2 (HBW.out.trans (HB2.out.mono HBW.out.size))
              have hr3 := HT.out w2 HB2.out
              have hr4 : (w2.setCells (w.heap.size + 1) (k * 64) R).cell? ⟨pb, o, none⟩ = some (.pointer (some ⟨vb, 0, none⟩)) := (World.cell?_of_block (setCells_other R w2 _ _ pb (by have := HPV.out.1; omega))).trans hr1
              have hr5 : (w2.setCells (w.heap.size + 1) (k * 64) R).cell? ⟨vb, 0, none⟩ = some (.pointer (some ⟨db, 0, none⟩)) := (World.cell?_of_block (setCells_other R w2 _ _ vb (by have := HPV.out.2; omega))).trans hr2
              have hr6 : (w2.setCells (w.heap.size + 1) (k * 64) R).there (w.heap.size + 1) (k * 64) R.toArray.size := World.there_setCells hr3 _ _ _
              clear hb2)))
      all_goals
        go_wp2
        have hkl := HKL.out
        have hbf : Below wr.heap.size wr w2 := HB2.out
        have e1 : w2.heap[w.heap.size + 1]? = some (.cells (readUp (readW D ws A) (readW D ws (A + 1)) k).toArray 256 (0, 0)) := (hbf.block _ (lt_of_block' HC1.out)).trans HC1.out
        refine ⟨⟨k + 1, by omega, by simp, ?_, ?_, ?_⟩, by simp [intOf]; omega⟩
        · rw [setCells_at R w2 _ _ _ _ e1, HNX.out]
        · exact (setCells_other R w2 _ _ _ (by omega)).trans ((hbf.block _ (lt_of_block' HC0.out)).trans HC0.out)
        · exact (HBW.out.trans (hbf.mono HBW.out.size)).trans (setCells_belowB R w2 _ _ (by omega))
    · obtain rfl : k = 2 := by omega
      obtain ⟨R, hR⟩ : ∃ R, readW D ws A ++ readW D ws (A + 1) = R := ⟨_, rfl⟩
      have hR2 : readUp (readW D ws A) (readW D ws (A + 1)) 2 = R := hR
      have hRl : R.length = 128 := by rw [← hR, List.length_append, l0, l1]
      have hR1 : ∀ u ∈ R, u.oneCell' = true := by
        rw [← hR]
        exact fun u hu => (List.mem_append.1 hu).elim (fun h => isByte_one (HY0.out u h)) (fun h => isByte_one (HY1.out u h))
      rw [hR2] at hc1
      have HRR : Hid (readW D ws A ++ readW D ws (A + 1) = R) := hR
      have hrg : wr.rangeAt (w.heap.size + 1) 0 R := fun j u hu => by rw [Nat.zero_add]; exact cell_at hc1 (by simpa using hu)
      have hi : (Tryz.prog.info? 256).map (·.size) = some R.length := by rw [hRl]; kernel_rfl
      have HC0 := @id (Hid _) hc0
      have HBW : Hid (Below w.heap.size w wr) := hbw
      have HFIN : Hid ((wr.setRow w.heap.size R.toArray).heap[w.heap.size]? = some (.cells R.toArray 256 (0, 0))) := setRow_heap wr w.heap.size _ R.toArray _ (0, 0) hc0
      have HBF : Hid (Below w.heap.size w (wr.setRow w.heap.size R.toArray)) := hbw.trans (setRow_below wr _ _)
      clear hc0 hc1 hbw hR hR2 hp hv HRD HC HKP l0 l1
      go_wp2_with (first
        | (refine wpList_load_mid rfl 256 (.tmp 7) rfl (w.heap.size + 1) 0 (by rfl) R _ hrg Tryz.underlying256 rfl hi ?_)
        | (refine wpList_store_row rfl 256 (.tmp 6) (.tmp 28) rfl w.heap.size R.toArray (by rfl) (by rfl) 256 _ HC0.out (by simpa using hi) ?ho (all_oneCell_toArray hR1) ?_
           case ho => simp [readUp, hRl]))
      exact bodyPost_ret (results_cell_row Tryz.results189 _ _ w.heap.size 256 R.toArray (0, 0) _ rfl HFIN.out Tryz.underlying256 rfl (by simpa using hi)) rfl ⟨by rw [HRR.out], HBF.out⟩
end Go.Proofs.YtihbngfbcnojcaaGreat

namespace Go.Proofs.YtihbngfbcnojcaaGreat
open Go.RowKit

set_option maxHeartbeats 400000 in
theorem isNaNU_any (a : Int) (w : World) : Calls Tryz.prog 222 #[.int .u32 a] w fun e w' => e = .returned (.bool false) ∧ w = w' := by
  go_enter Tryz.func222, Tryz.ntmps222
  go_wp2
  go_ret
  exact ⟨rfl, rfl⟩

/-- cmp.Compare of two numbers. -/
def cmpI (a b : Int) : Int := if a < b then -1 else if b < a then 1 else 0

set_option maxHeartbeats 1000000 in
theorem compareU_any (a b : Int) (w : World) : Calls Tryz.prog 200 #[.int .u32 a, .int .u32 b] w fun e w' => e = .returned (.int .i64 (cmpI a b)) ∧ w = w' := by
  by_cases h1 : a < b
  · have ec : cmpI a b = -1 := by simp [cmpI, h1]
    go_enter Tryz.func200, Tryz.ntmps200
    go_wp2_with (first | (go_at_call 222; refine (isNaNU_any _ _).mono ?_; rintro e w' ⟨rfl, rfl⟩))
    go_ret
    exact ⟨by rw [ec]; rfl, rfl⟩
  · by_cases h2 : b < a
    · have ec : cmpI a b = 1 := by simp [cmpI, h1, h2]
      go_enter Tryz.func200, Tryz.ntmps200
      go_wp2_with (first | (go_at_call 222; refine (isNaNU_any _ _).mono ?_; rintro e w' ⟨rfl, rfl⟩))
      go_ret
      exact ⟨by rw [ec]; rfl, rfl⟩
    · have ec : cmpI a b = 0 := by simp [cmpI, h1, h2]
      go_enter Tryz.func200, Tryz.ntmps200
      go_wp2_with (first | (go_at_call 222; refine (isNaNU_any _ _).mono ?_; rintro e w' ⟨rfl, rfl⟩))
      go_ret
      exact ⟨by rw [ec]; rfl, rfl⟩

/-- cmp.Or of two numbers. -/
def orI (a b : Int) : Int := if a = 0 then b else a

set_option maxHeartbeats 1000000 in
theorem or_any (g : Nat) (a b : Int) (w : World) (h0 : w.cell? ⟨g, 0, none⟩ = some (.int .i64 a)) (h1 : w.cell? ⟨g, 1, none⟩ = some (.int .i64 b)) :
    Calls Tryz.prog 199 #[.slice (some ⟨g, 0, none⟩) 2 2] w fun e w' => e = .returned (.int .i64 (orI a b)) ∧ w = w' := by
  go_enter Tryz.func199, Tryz.ntmps199
  go_wp2
  go_loopw [8] (fun i wr => ∃ k : Nat, k ≤ 2 ∧ i = .int .i64 k ∧ wr = w ∧ (0 < k → a = 0) ∧ (1 < k → b = 0)) (fun i _ => 2 - (intOf i).toNat)
  case atStart => exact ⟨0, by omega, rfl, rfl, by omega, by omega⟩
  case round =>
    obtain ⟨k, hk, rfl, rfl, ha, hb⟩ := hrel
    match k, hk, ha, hb with
    | 0, _, _, _ =>
      by_cases hz : a = 0
      · subst hz
        go_wp2
        exact ⟨⟨1, by omega, rfl, by simp, by simp, by omega⟩, by simp [intOf]⟩
      · have hz' : (a == 0) = false := by simpa using hz
        go_wp2
        go_ret
        exact ⟨by simp [orI, hz], rfl⟩
    | 1, _, ha, _ =>
      have ha0 := ha (by omega)
      subst ha0
      by_cases hz : b = 0
      · subst hz
        go_wp2
        exact ⟨⟨2, by omega, rfl, by simp, by simp, by simp⟩, by simp [intOf]⟩
      · have hz' : (b == 0) = false := by simpa using hz
        go_wp2
        go_ret
        exact ⟨by simp [orI], rfl⟩
    | 2, _, ha, hb =>
      have ha0 := ha (by omega)
      have hb0 := hb (by omega)
      subst ha0 hb0
      go_wp2
      go_ret
      exact ⟨by simp [orI], rfl⟩

/-- Whether a stamp is above another. -/
def aboveB (a b c d : Int) : Bool := decide (0 < orI (cmpI a c) (cmpI b d))

set_option maxRecDepth 100000 in
set_option maxHeartbeats 1000000 in
theorem above_any (a b c d : Int) (w : World) :
    Calls Tryz.prog 150 #[.agg #[.int .u32 a, .int .u32 b], .agg #[.int .u32 c, .int .u32 d]] w fun e w' => e = .returned (.bool (aboveB a b c d)) ∧ Below w.heap.size w w' := by
  obtain ⟨x, hx⟩ : ∃ x, cmpI a c = x := ⟨_, rfl⟩
  obtain ⟨y, hy⟩ : ∃ y, cmpI b d = y := ⟨_, rfl⟩
  have K1 := fun w => compareU_any a c w
  have K2 := fun w => compareU_any b d w
  rw [hx] at K1
  rw [hy] at K2
  have hab : aboveB a b c d = decide (0 < orI x y) := by rw [aboveB, hx, hy]
  obtain ⟨z, hz⟩ : ∃ z, orI x y = z := ⟨_, rfl⟩
  rw [hz] at hab
  have HAB : Hid (aboveB a b c d = decide (0 < z)) := hab
  have HZ : Hid (orI x y = z) := hz
  have HK1 := @id (Hid (∀ w, Calls _ _ _ w _)) K1
  have HK2 := @id (Hid (∀ w, Calls _ _ _ w _)) K2
  have tok1 : True := trivial
  have tok2 : True := trivial
  clear hx hy K1 K2 hab hz
  go_enter Tryz.func150, Tryz.ntmps150
  go_wp2
  obtain ⟨W1, hW1⟩ : ∃ W1, (w.alloc (.cells #[.int .u32 a, .int .u32 b] 168)).alloc (.cells #[.int .u32 c, .int .u32 d] 168) = W1 := ⟨_, rfl⟩
  have b0 : W1.heap[w.heap.size]? = some (.cells #[.int .u32 a, .int .u32 b] 168 (0, 0)) := by rw [← hW1, Below.heap_alloc _ _ _ (by simp)]; exact heap_alloc_new w _
  have b1 : W1.heap[w.heap.size + 1]? = some (.cells #[.int .u32 c, .int .u32 d] 168 (0, 0)) := by rw [← hW1]; exact heap_alloc_new2 w _ _
  have HB1 : Hid (Below w.heap.size w W1) := by show Below _ _ _; rw [← hW1]; exact ((Below.refl _ w).alloc (Nat.le_refl _) _).alloc (by simp) _
  rw [hW1]
  clear hW1
  have c1 := cell_at (j := 0) b0 rfl
  have c2 := cell_at (j := 1) b0 rfl
  have c3 := cell_at (j := 0) b1 rfl
  have c4 := cell_at (j := 1) b1 rfl
  clear b0 b1
  go_region_held3 (fun w' => w'.cell? ⟨w.heap.size, 0, none⟩ = some (.int .u32 a) ∧ w'.cell? ⟨w.heap.size, 1, none⟩ = some (.int .u32 b) ∧ w'.cell? ⟨w.heap.size + 1, 0, none⟩ = some (.int .u32 c) ∧ w'.cell? ⟨w.heap.size + 1, 1, none⟩ = some (.int .u32 d))
    (go_keep)
    (first
      | (go_at_call 200; have _t := tok1; go_must (refine (HK1.out _).mono ?_; rintro e w' ⟨rfl, rfl⟩; clear tok1))
      | (go_at_call 200; have _t := tok2; go_must (refine (HK2.out _).mono ?_; rintro e w' ⟨rfl, rfl⟩; clear tok2))
      | (go_at_call 199; go_must (
          refine (or_any W1.heap.size x y (W1.drew.alloc (.cells #[.int .i64 x, .int .i64 y] 3)) (cell_at (heap_alloc_new W1.drew _) rfl) (cell_at (heap_alloc_new W1.drew _) rfl)).mono ?_
          rintro e w' ⟨rfl, rfl⟩
          rw [HZ.out])))
  all_goals
    go_wp2
    go_ret
    exact ⟨by rw [HAB.out]; rfl, (HB1.out.alloc HB1.out.size _).drew⟩

/-- A copy of a page, as a store writes it. -/
structure CopyV where
  (a b : Int)
  (k1 v1 k2 v2 k3 v3 k4 v4 : ByteArray)
def CopyV.Fits (c : CopyV) : Prop := (0 ≤ c.a ∧ c.a < 4294967295 ∧ 0 ≤ c.b ∧ c.b < 4294967296) ∧ c.k1.size ≤ 8 ∧ c.v1.size ≤ 12 ∧ c.k2.size ≤ 8 ∧ c.v2.size ≤ 12 ∧ c.k3.size ≤ 8 ∧ c.v3.size ≤ 12 ∧ c.k4.size ≤ 8 ∧ c.v4.size ≤ 12
def CopyV.pairs (c : CopyV) : Pairs := upPairs c.k1 c.v1 c.k2 c.v2 2 ++ upPairs c.k3 c.v3 c.k4 c.v4 2
/-- It lies on the disk as copy t of page n. -/
def CopyAt (D : Array Value) (ws : List (Nat × List Value)) (n t : Nat) (c : CopyV) : Prop :=
  readW D ws (2 + (n * 2 + t) * 2) = sealed c.a c.b (halfBody c.k1 c.v1 c.k2 c.v2) ∧ readW D ws (2 + (n * 2 + t) * 2 + 1) = sealed c.a c.b (halfBody c.k3 c.v3 c.k4 c.v4)

set_option maxRecDepth 100000 in
set_option maxHeartbeats 1000000 in
theorem load1_any (b2 b3 pb o vb db n t : Nat) (D : Array Value) (ws : List (Nat × List Value)) (v : Value) (c : CopyV) (w : World) (hn : n < 8) (ht : t < 2) (h2 : w.cell? ⟨b2, 0, none⟩ = some (.pointer (some ⟨pb, o, none⟩))) (h3 : w.cell? ⟨b3, 0, none⟩ = some (.int .i64 (n : Int))) (hb2 : b2 < w.heap.size) (hb3 : b3 < w.heap.size)
    (hp : w.cell? ⟨pb, o, none⟩ = some (.pointer (some ⟨vb, 0, none⟩))) (hv : w.cell? ⟨vb, 0, none⟩ = some (.pointer (some ⟨db, 0, none⟩))) (hpw : pb < w.heap.size) (hvw : vb < w.heap.size) (hd : DiskIs w db D ws v) (hc : CopyAt D ws n t c) (hf : c.Fits) :
    Calls Tryz.prog 187 #[.int .i64 (t : Int), .pointer (some ⟨b2, 0, none⟩), .pointer (some ⟨b3, 0, none⟩)] w fun e w' => ∃ x, e = .returned (.tuple #[.agg #[.int .u32 c.a, .int .u32 c.b], x, .bool true]) ∧
      w'.ownsRow w.heap.size 43 2 x c.pairs.length (pairCells c.pairs) ∧ Below w.heap.size w w' := by
  have HB : Hid (∀ o, Below w.heap.size w (w.alloc o)) := fun o => (Below.refl _ w).alloc (Nat.le_refl _) _
  have KR : ∀ o', Calls Tryz.prog 189 #[.pointer (some ⟨pb, o, none⟩), .int .i64 (n : Int), .int .i64 (t : Int)] (w.alloc o') fun e w' => e = .returned (.agg (sealed c.a c.b (halfBody c.k1 c.v1 c.k2 c.v2) ++ sealed c.a c.b (halfBody c.k3 c.v3 c.k4 c.v4)).toArray) ∧ Below (w.alloc o').heap.size (w.alloc o') w' := fun o' => by
    have hb := HB.out o'
    have := poolRead_any pb o vb db n t D ws v (w.alloc o') hn ht ((hb.cell (p := ⟨pb, o, none⟩) hpw).trans hp) ((hb.cell (p := ⟨vb, 0, none⟩) hvw).trans hv) (by simp; omega) (by simp; omega) (hd.below hb)
    rw [hc.1, hc.2] at this
    exact this
  obtain ⟨⟨f1, f2, f3, f4⟩, g1, g2, g3, g4, g5, g6, g7, g8⟩ := hf
  have KU := fun w => unpackPage_ok c.a c.b c.k1 c.v1 c.k2 c.v2 c.k3 c.v3 c.k4 c.v4 w f1 f2 f3 f4 g1 g2 g3 g4 g5 g6 g7 g8
  have hcp : c.pairs = upPairs c.k1 c.v1 c.k2 c.v2 2 ++ upPairs c.k3 c.v3 c.k4 c.v4 2 := rfl
  rw [← hcp] at KU
  have HKR := @id (Hid (∀ o', Calls _ _ _ (World.alloc _ o') _)) KR
  have HKU := @id (Hid (∀ w, Calls _ _ _ w _)) KU
  generalize (sealed c.a c.b (halfBody c.k1 c.v1 c.k2 c.v2) ++ sealed c.a c.b (halfBody c.k3 c.v3 c.k4 c.v4)).toArray = S at HKR HKU
  clear KR KU hcp hd hc hp hv
  go_enter Tryz.func187, Tryz.ntmps187
  go_wp2_with (first
    | (go_at_call 189; go_must (
        refine (HKR.out _).mono ?_
        rintro e w1 ⟨rfl, hb1⟩
        have HB1 : Hid (Below (w.heap.size + 1) (w.alloc (.cells #[.int .u32 0, .int .u32 0] 168)) w1) := by show Below _ _ _; simpa using hb1
        clear hb1))
    | (go_at_call 188; go_must (
        refine (HKU.out _).mono ?_
        rintro e w2 ⟨x, rfl, hx, hbb⟩
        have HB2 : Hid (Below (w.heap.size + 1) (w.alloc (.cells #[.int .u32 0, .int .u32 0] 168)) w2) := HB1.out.trans (hbb.mono (by have := HB1.out.size; simp at this; omega))
        have HX : Hid (w2.ownsRow (w.heap.size + 1) 43 2 x c.pairs.length (pairCells c.pairs)) := owns_mono hx (by have := HB1.out.size; simp at this; omega)
        have q := (HB2.out.block w.heap.size (by omega)).trans (heap_alloc_new w _)
        have HQ := @id (Hid _) q
        have c0 := cell_at (j := 0) q rfl
        have c1 := cell_at (j := 1) q rfl
        have e0 := frozen_at 0 q
        have e1 := frozen_at 1 q
        clear hbb hx q)))
  have k3 := setCell_at _ w.heap.size 1 (.int .u32 c.b) _ 168 (setCell_at w2 w.heap.size 0 (.int .u32 c.a) _ 168 HQ.out)
  have m0 := cell_at (j := 0) k3 rfl
  have m1 := cell_at (j := 1) k3 rfl
  refine bodyPost_ret (v := .tuple #[.agg #[.int .u32 c.a, .int .u32 c.b], x, .bool true]) ?_ rfl ⟨x, rfl, ?_, ?_⟩
  · simp [results, Tryz.results187, go_sem, m0, m1]
  · refine owns_mono (owns_off (w := w2) HX.out (fun g hg => ?_)) (show w.heap.size ≤ w.heap.size + 1 by omega)
    have := (HX.out.lt g hg).1
    exact (Below.heap_setCell _ _ _ _ (show g ≠ w.heap.size by omega)).trans (Below.heap_setCell _ _ _ _ (show g ≠ w.heap.size by omega))
  · exact (((HB.out _).trans (HB2.out.mono (by omega))).setCell (p := ⟨w.heap.size, 0, none⟩) (by simp) _).setCell (p := ⟨w.heap.size, 1, none⟩) (by simp) _
end Go.Proofs.YtihbngfbcnojcaaGreat

namespace Go.Proofs.YtihbngfbcnojcaaGreat
open Go.RowKit

/-- What 'newer' holds behind k rounds: which copy, what it holds, whether there is one, its stamp. -/
structure NewSt where
  at' : Nat
  rec' : Pairs
  found : Bool
  (a b : Int)
def NewSt.start : NewSt := ⟨1, [], false, 0, 0⟩
def NewSt.step (s : NewSt) (t : Nat) (c : CopyV) : NewSt := if aboveB c.a c.b s.a s.b = true then ⟨t, c.pairs, true, c.a, c.b⟩ else s
def NewSt.of (c0 c1 : CopyV) : Nat → NewSt
  | 0 => .start
  | 1 => NewSt.start.step 0 c0
  | _ => (NewSt.start.step 0 c0).step 1 c1

set_option maxRecDepth 100000 in
set_option maxHeartbeats 2000000 in
theorem newer_any (f : Value) (b2 b3 : Nat) (c0 c1 : CopyV) (w : World) (hfv : f = .func (.func 187) #[] #[.pointer (some ⟨b2, 0, none⟩), .pointer (some ⟨b3, 0, none⟩)])
    (h0 : ∀ W, Below w.heap.size w W → Calls Tryz.prog 187 #[.int .i64 0, .pointer (some ⟨b2, 0, none⟩), .pointer (some ⟨b3, 0, none⟩)] W fun e w' => ∃ x, e = .returned (.tuple #[.agg #[.int .u32 c0.a, .int .u32 c0.b], x, .bool true]) ∧ w'.ownsRow W.heap.size 43 2 x c0.pairs.length (pairCells c0.pairs) ∧ Below W.heap.size W w')
    (h1 : ∀ W, Below w.heap.size w W → Calls Tryz.prog 187 #[.int .i64 1, .pointer (some ⟨b2, 0, none⟩), .pointer (some ⟨b3, 0, none⟩)] W fun e w' => ∃ x, e = .returned (.tuple #[.agg #[.int .u32 c1.a, .int .u32 c1.b], x, .bool true]) ∧ w'.ownsRow W.heap.size 43 2 x c1.pairs.length (pairCells c1.pairs) ∧ Below W.heap.size W w') :
    Calls Tryz.prog 186 #[f] w fun e w' => ∃ x, e = .returned (.tuple #[.int .i64 ((NewSt.of c0 c1 2).at' : Int), x, .bool (NewSt.of c0 c1 2).found]) ∧
      w'.ownsRow w.heap.size 43 2 x (NewSt.of c0 c1 2).rec'.length (pairCells (NewSt.of c0 c1 2).rec') ∧ Below w.heap.size w w' := by
  subst hfv
  have H0 := @id (Hid (∀ W, Below w.heap.size w W → Calls _ _ _ W _)) h0
  have H1 := @id (Hid (∀ W, Below w.heap.size w W → Calls _ _ _ W _)) h1
  clear h0 h1
  go_enter Tryz.func186, Tryz.ntmps186
  go_wp2
  go_loopw [2, 3, 4, 10] (fun at' x found i wr => ∃ k : Nat, k ≤ 2 ∧ i = .int .i64 k ∧ at' = .int .i64 ((NewSt.of c0 c1 k).at' : Int) ∧ found = .bool (NewSt.of c0 c1 k).found ∧ wr.ownsRow (w.heap.size + 1) 43 2 x (NewSt.of c0 c1 k).rec'.length (pairCells (NewSt.of c0 c1 k).rec') ∧
      wr.heap[w.heap.size]? = some (.cells #[.int .u32 (NewSt.of c0 c1 k).a, .int .u32 (NewSt.of c0 c1 k).b] 168 (0, 0)) ∧ Below w.heap.size w wr) (fun _ _ _ i _ => 2 - (intOf i).toNat)
  case atStart => exact ⟨0, by omega, rfl, rfl, rfl, World.ownsRow_nil _ _ _ _, heap_alloc_new w _, (Below.refl _ w).alloc (Nat.le_refl _) _⟩
  case round =>
    obtain ⟨k, hk, rfl, rfl, rfl, hown, hst, hbw⟩ := hrel
    by_cases hlt : k < 2
    · have hlt' : (k : Int) < 2 := by omega
      obtain ⟨c, hKC, hnx⟩ : ∃ c : CopyV, (∀ W, Below w.heap.size w W → Calls Tryz.prog 187 #[.int .i64 (k : Int), .pointer (some ⟨b2, 0, none⟩), .pointer (some ⟨b3, 0, none⟩)] W fun e w' => ∃ x, e = .returned (.tuple #[.agg #[.int .u32 c.a, .int .u32 c.b], x, .bool true]) ∧ w'.ownsRow W.heap.size 43 2 x c.pairs.length (pairCells c.pairs) ∧ Below W.heap.size W w') ∧ NewSt.of c0 c1 (k + 1) = (NewSt.of c0 c1 k).step k c := by
        match k, hlt with
        | 0, _ => exact ⟨c0, H0.out, rfl⟩
        | 1, _ => exact ⟨c1, H1.out, rfl⟩
      have HNX : Hid (NewSt.of c0 c1 (k + 1) = (NewSt.of c0 c1 k).step k c) := hnx
      have HKC := @id (Hid (∀ W, Below w.heap.size w W → Calls _ _ _ W _)) hKC
      generalize NewSt.of c0 c1 k = s at HNX hown hst
      obtain ⟨sat, srec, sfound, sa, sb⟩ := s
      simp only at hown hst
      have HOW : Hid (wr.ownsRow (w.heap.size + 1) 43 2 u3 srec.length (pairCells srec)) := hown
      have HST := @id (Hid _) hst
      have HBW : Hid (Below w.heap.size w wr) := hbw
      have hlw : w.heap.size < wr.heap.size := lt_of_block' hst
      clear hnx hKC hown hst hbw
      cases hab : aboveB c.a c.b sa sb with
      | true =>
        have KA := fun w => above_any c.a c.b sa sb w
        rw [hab] at KA
        have HKA := @id (Hid (∀ w, Calls _ _ _ w _)) KA
        have HS : Hid (NewSt.of c0 c1 (k + 1) = ⟨k, c.pairs, true, c.a, c.b⟩) := by show _ = _; rw [HNX.out, NewSt.step]; simp [hab]
        clear KA hab
        go_wp2_with (first
          | (go_at_call 187; go_must (
              refine (HKC.out wr HBW.out).mono ?_
              rintro e w2 ⟨x2, rfl, hx2, hb2⟩
              have HX2 : Hid (w2.ownsRow (w.heap.size + 1) 43 2 x2 c.pairs.length (pairCells c.pairs)) := owns_mono hx2 (by omega)
              have HB2 : Hid (Below wr.heap.size wr w2) := hb2
              have q := (hb2.block _ hlw).trans HST.out
              have d0 := cell_at (j := 0) q rfl
              have d1 := cell_at (j := 1) q rfl
              have g0 := frozen_at 0 q
              have g1 := frozen_at 1 q
              have HQ := @id (Hid _) q
              have hl2 : w.heap.size < w2.heap.size := by have := hb2.size; omega
              clear hx2 hb2 q))
          | (go_at_call 150; go_must (
              refine (HKA.out _).mono ?_
              rintro e w3 ⟨rfl, hb3⟩
              have HB3 := @id (Hid _) hb3
              clear hb3)))
        have hb3 := HB3.out
        have q1 : w3.heap[w2.heap.size]? = some (.cells #[.int .u32 c.a, .int .u32 c.b] 168 (0, 0)) := (hb3.block _ (by simp)).trans (heap_alloc_new w2 _)
        have q0 : w3.heap[w.heap.size]? = some (.cells #[.int .u32 sa, .int .u32 sb] 168 (0, 0)) := (hb3.block _ (by simp; omega)).trans ((Below.heap_alloc _ _ _ hl2).trans HQ.out)
        have c5 := cell_at (j := 0) q1 rfl
        have c6 := cell_at (j := 1) q1 rfl
        have d5 := cell_at (j := 0) q0 rfl
        have d6 := cell_at (j := 1) q0 rfl
        have g5 := frozen_at 0 q0
        have g6 := frozen_at 1 q0
        have HQ0 := @id (Hid _) q0
        have HB4 : Hid (Below w.heap.size w w3) := (HBW.out.trans (HB2.out.mono HBW.out.size)).trans (((Below.refl _ w2).alloc (by omega) _).trans (hb3.mono (by simp; omega)))
        have HX3 : Hid (w3.ownsRow (w.heap.size + 1) 43 2 x2 c.pairs.length (pairCells c.pairs)) := owns_below (HX2.out.alloc _) hb3 (fun g hg => by have := (HX2.out.lt g hg).2; simp; omega)
        clear hb3 q1 q0 d0 d1 g0 g1
        go_region
        all_goals
          go_wp2
          refine ⟨⟨k + 1, by omega, by simp, ?_, ?_, ?_, ?_, ?_⟩, by simp [intOf]; omega⟩
          · rw [HS.out]
          · rw [HS.out]
          · rw [HS.out]
            refine owns_off (w := w3) HX3.out (fun g hg => ?_)
            have := (HX3.out.lt g hg).1
            exact (Below.heap_setCell _ _ _ _ (show g ≠ w.heap.size by omega)).trans (Below.heap_setCell _ _ _ _ (show g ≠ w.heap.size by omega))
          · rw [HS.out]
            exact setCell_at _ w.heap.size 1 (.int .u32 c.b) _ 168 (setCell_at w3 w.heap.size 0 (.int .u32 c.a) _ 168 HQ0.out)
          · exact ((HB4.out.setCell (p := ⟨w.heap.size, 0, none⟩) (by simp) _).setCell (p := ⟨w.heap.size, 1, none⟩) (by simp) _).drew
      | false =>
        have KA := fun w => above_any c.a c.b sa sb w
        rw [hab] at KA
        have HKA := @id (Hid (∀ w, Calls _ _ _ w _)) KA
        have HS : Hid (NewSt.of c0 c1 (k + 1) = ⟨sat, srec, sfound, sa, sb⟩) := by show _ = _; rw [HNX.out, NewSt.step]; simp [hab]
        clear KA hab
        go_wp2_with (first
          | (go_at_call 187; go_must (
              refine (HKC.out wr HBW.out).mono ?_
              rintro e w2 ⟨x2, rfl, hx2, hb2⟩
              have HX2 : Hid (w2.ownsRow (w.heap.size + 1) 43 2 x2 c.pairs.length (pairCells c.pairs)) := owns_mono hx2 (by omega)
              have HB2 : Hid (Below wr.heap.size wr w2) := hb2
              have q := (hb2.block _ hlw).trans HST.out
              have d0 := cell_at (j := 0) q rfl
              have d1 := cell_at (j := 1) q rfl
              have g0 := frozen_at 0 q
              have g1 := frozen_at 1 q
              have HQ := @id (Hid _) q
              have hl2 : w.heap.size < w2.heap.size := by have := hb2.size; omega
              clear hx2 hb2 q))
          | (go_at_call 150; go_must (
              refine (HKA.out _).mono ?_
              rintro e w3 ⟨rfl, hb3⟩
              have HB3 := @id (Hid _) hb3
              clear hb3)))
        have hb3 := HB3.out
        have q0 : w3.heap[w.heap.size]? = some (.cells #[.int .u32 sa, .int .u32 sb] 168 (0, 0)) := (hb3.block _ (by simp; omega)).trans ((Below.heap_alloc _ _ _ hl2).trans HQ.out)
        have hb4 : Below w.heap.size w w3 := (HBW.out.trans (HB2.out.mono HBW.out.size)).trans (((Below.refl _ w2).alloc (by omega) _).trans (hb3.mono (by simp; omega)))
        have hx3 : w3.ownsRow (w.heap.size + 1) 43 2 u3 srec.length (pairCells srec) := owns_below ((owns_below HOW.out HB2.out (fun g hg => (HOW.out.lt g hg).2)).alloc _) hb3 (fun g hg => by have := (HOW.out.lt g hg).2; have := HB2.out.size; simp; omega)
        refine ⟨⟨k + 1, by omega, by simp, ?_, ?_, ?_, ?_, hb4⟩, by simp [intOf]; omega⟩
        · rw [HS.out]
        · rw [HS.out]
        · rw [HS.out]; exact hx3
        · rw [HS.out]; exact q0
    · obtain rfl : k = 2 := by omega
      have HOW : Hid (wr.ownsRow (w.heap.size + 1) 43 2 u3 (NewSt.of c0 c1 2).rec'.length (pairCells (NewSt.of c0 c1 2).rec')) := hown
      have HBW : Hid (Below w.heap.size w wr) := hbw
      clear hown hst hbw
      go_wp2
      refine bodyPost_ret (v := .tuple #[.int .i64 ((NewSt.of c0 c1 2).at' : Int), u3, .bool (NewSt.of c0 c1 2).found]) ?_ rfl ⟨_, rfl, owns_mono HOW.out (by omega), HBW.out⟩
      simp [results, Tryz.results186, go_sem]

/-- What a page holds on the disk: its copies, both whole. -/
def PageOn (D : Array Value) (ws : List (Nat × List Value)) (n : Nat) (c0 c1 : CopyV) : Prop := CopyAt D ws n 0 c0 ∧ CopyAt D ws n 1 c1 ∧ c0.Fits ∧ c1.Fits

set_option maxRecDepth 100000 in
set_option maxHeartbeats 1000000 in
theorem load_any (pb o vb db n : Nat) (D : Array Value) (ws : List (Nat × List Value)) (v : Value) (c0 c1 : CopyV) (w : World) (hn : n < 8)
    (hp : w.cell? ⟨pb, o, none⟩ = some (.pointer (some ⟨vb, 0, none⟩))) (hv : w.cell? ⟨vb, 0, none⟩ = some (.pointer (some ⟨db, 0, none⟩))) (hpw : pb < w.heap.size) (hvw : vb < w.heap.size) (hd : DiskIs w db D ws v) (hc : PageOn D ws n c0 c1) :
    Calls Tryz.prog 143 #[.pointer (some ⟨pb, o, none⟩), .int .i64 (n : Int)] w fun e w' => ∃ g x, e = .returned (.pointer (some ⟨g, 0, none⟩)) ∧ w.heap.size ≤ g ∧ w'.heap[g]? = some (.cells #[.int .i64 ((NewSt.of c0 c1 2).at' : Int), x] 180 (0, 0)) ∧
      w'.ownsRow w.heap.size 43 2 x (NewSt.of c0 c1 2).rec'.length (pairCells (NewSt.of c0 c1 2).rec') ∧ x.ownBlock ≠ some g ∧ Below w.heap.size w w' := by
  obtain ⟨hc0, hc1, hf0, hf1⟩ := hc
  obtain ⟨W1, hW1⟩ : ∃ W1, (w.alloc (.cells #[.pointer (some ⟨pb, o, none⟩)] 178)).alloc (.cells #[.int .i64 (n : Int)] 3) = W1 := ⟨_, rfl⟩
  have hB1 : Below w.heap.size w W1 := by rw [← hW1]; exact ((Below.refl _ w).alloc (Nat.le_refl _) _).alloc (by simp) _
  have b0 : W1.heap[w.heap.size]? = some (.cells #[.pointer (some ⟨pb, o, none⟩)] 178 (0, 0)) := by rw [← hW1, Below.heap_alloc _ _ _ (by simp)]; exact heap_alloc_new w _
  have b1 : W1.heap[w.heap.size + 1]? = some (.cells #[.int .i64 (n : Int)] 3 (0, 0)) := by rw [← hW1]; exact heap_alloc_new2 w _ _
  have KL : ∀ (t : Nat) (c : CopyV), t < 2 → CopyAt D ws n t c → c.Fits → ∀ W, Below W1.heap.size W1 W → Calls Tryz.prog 187 #[.int .i64 (t : Int), .pointer (some ⟨w.heap.size, 0, none⟩), .pointer (some ⟨w.heap.size + 1, 0, none⟩)] W fun e w' => ∃ x, e = .returned (.tuple #[.agg #[.int .u32 c.a, .int .u32 c.b], x, .bool true]) ∧ w'.ownsRow W.heap.size 43 2 x c.pairs.length (pairCells c.pairs) ∧ Below W.heap.size W w' := fun t c ht hca hcf W hW => by
    have hz := lt_of_block' b1
    have hzz := hW.size
    have hbw : Below w.heap.size w W := hB1.trans (hW.mono hB1.size)
    exact load1_any w.heap.size (w.heap.size + 1) pb o vb db n t D ws v c W hn ht (cell_at ((hW.block _ (by omega)).trans b0) rfl) (cell_at ((hW.block _ hz).trans b1) rfl) (by omega) (by omega) ((hbw.cell (p := ⟨pb, o, none⟩) hpw).trans hp) ((hbw.cell (p := ⟨vb, 0, none⟩) hvw).trans hv) (by omega) (by omega) (hd.below hbw) hca hcf
  have KN := newer_any _ w.heap.size (w.heap.size + 1) c0 c1 W1 rfl (KL 0 c0 (by omega) hc0 hf0) (KL 1 c1 (by omega) hc1 hf1)
  have HKN := @id (Hid (Calls _ _ _ _ _)) KN
  have HB1 : Hid (Below w.heap.size w W1) := hB1
  generalize NewSt.of c0 c1 2 = s at HKN ⊢
  clear KL KN b0 b1 hB1 hc0 hc1 hf0 hf1 hd hp hv
  go_enter Tryz.func143, Tryz.ntmps143
  go_wp2_with (first
    | (go_at_call 186; go_must (
        refine HKN.out.mono ?_
        rintro e w2 ⟨x, rfl, hx, hb2⟩
        obtain ⟨ad, cp, rfl⟩ := owns_form hx
        have HX : Hid (w2.ownsRow w.heap.size 43 2 (.slice ad s.rec'.length cp) s.rec'.length (pairCells s.rec')) := owns_mono hx HB1.out.size
        have HB2 : Hid (Below w.heap.size w w2) := HB1.out.trans (hb2.mono HB1.out.size)
        clear hx hb2)))
  go_ret
  refine ⟨_, _, rfl, HB2.out.size, heap_alloc_new w2 _, HX.out.alloc _, fun e => ?_, HB2.out.alloc HB2.out.size _⟩
  have := (HX.out.lt _ e).2
  omega
end Go.Proofs.YtihbngfbcnojcaaGreat

namespace Go.Proofs.YtihbngfbcnojcaaGreat
open Go.RowKit

/-- 'len(m)'. -/
theorem run_len_map {P : Program} {w : World} {t k e : TypeId} {b : Nat} {es : Array MapEntry} {clock : Nat} (ht : P.underlying t = some (.map k e)) (ty : TypeId) (hb : w.heap[b]? = some (.map es clock)) :
    (Builtin.len_ #[t] ty #[.map (some b)]).run P w = .ok (.int .i64 es.size) w := by
  simp [Builtin.len_, run_underlying ht, MapKept.run_getObj_map hb, goInt, Result.andThen]

/-- The map at block b is now this one. -/
def putMap (w : World) (b : Nat) (es : Array MapEntry) (clock : Nat) : World := { w with heap := w.heap.setIfInBounds b (.map es clock) }

theorem putMap_other (w : World) (b : Nat) (es : Array MapEntry) (clock : Nat) {k : Nat} (h : k ≠ b) : (putMap w b es clock).heap[k]? = w.heap[k]? := by
  simp only [putMap, Array.getElem?_setIfInBounds]; rw [if_neg (by omega)]
theorem putMap_same (w : World) (b : Nat) (es : Array MapEntry) (clock : Nat) (h : b < w.heap.size) : (putMap w b es clock).heap[b]? = some (.map es clock) := by
  simp [putMap, h]
theorem putMap_size (w : World) (b : Nat) (es : Array MapEntry) (clock : Nat) : (putMap w b es clock).heap.size = w.heap.size := by simp [putMap]

/-- 'm[k] = v' at a key that is not there. -/
theorem run_mapUpdate_new {P : Program} {w : World} {mty kt et : TypeId} {d : TypeDesc} {b clock : Nat} {es : Array MapEntry} {key : Value} (hm : P.underlying mty = some (.map kt et)) (hk : P.underlying kt = some d) (hi : MapKept.IsKey d key)
    (hb : w.heap[b]? = some (.map es clock)) (hf : Instr.findNow d key es.toList 0 = some none) (val : Value) :
    (Instr.mapUpdate mty (.map (some b)) key val).run P w = .ok () (putMap w b (es.push { key := key, val := val, born := clock }) (clock + 1)) := by
  have hc : (Instr.checkKey false 10000 kt key).run P w = .ok () w := MapKept.run_checkKey hk hi false 9999
  simp [Instr.mapUpdate, run_underlying hm, MapKept.run_getObj_map hb, hc, MapKept.run_findKey hk hf, MapKept.run_setObj_map _ hb, Result.andThen, putMap]

theorem below_putMap {B : Nat} {a w : World} (h : Below B a w) {b : Nat} (hb : B ≤ b) (es : Array MapEntry) (clock : Nat) : Below B a (putMap w b es clock) :=
  h.trans ⟨rfl, rfl, rfl, by rw [putMap_size]; exact Nat.le_refl _, fun k hk => putMap_other _ _ _ _ (by omega)⟩

end Go.Proofs.YtihbngfbcnojcaaGreat

namespace Go.Proofs.YtihbngfbcnojcaaGreat
open Go.RowKit

/-- A map whose elements are read as they are. -/
def asIs (v : Value) : Option (DataW Value × List MemPlace) := some (.held v, [])
def MapOf (w : World) (k : TypeId) (b n : Nat) (D : DataW Value) : Prop := w.ownsMap Tryz.prog k asIs b n D

theorem MapOf.look {w : World} {k t e : TypeId} {b n : Nat} {D : DataW Value} (h : MapOf w k b n D) (K : Maps.Keyed Tryz.prog k) (ht : Tryz.prog.underlying t = some (.map k e)) {z : Value} (hz : (zeroValue e).run Tryz.prog w = .ok z w) {key : Value} {kl : Lit} (hkey : keyOf Tryz.prog k key = some kl) :
    ∃ v, (Instr.lookup t (.map (some b)) key false).run Tryz.prog w = .ok v w ∧ D.atKey kl (.held z) = .held v := by
  obtain ⟨v, ps, hr, hv⟩ := World.ownsMap.lookup h K ht hz (zd := .held z) (zp := []) rfl hkey
  refine ⟨v, hr, ?_⟩
  simp only [asIs, Option.some.injEq, Prod.mk.injEq] at hv
  exact hv.1.symm
theorem MapOf.kept {w w' : World} {k : TypeId} {b n : Nat} {D : DataW Value} (h : MapOf w k b n D) (hk : w'.heap[b]? = w.heap[b]?) : MapOf w' k b n D := by
  obtain ⟨es, clock, hb, r⟩ := h
  exact ⟨es, clock, hk.trans hb, r⟩
theorem MapOf.lt {w : World} {k : TypeId} {b n : Nat} {D : DataW Value} (h : MapOf w k b n D) : b < w.heap.size := World.ownsMap.lt h
theorem MapOf.below {w w' : World} {k : TypeId} {b n : Nat} {D : DataW Value} (h : MapOf w k b n D) (hb : Below w.heap.size w w') : MapOf w' k b n D := h.kept (hb.block b h.lt)

/-- A number as a key. -/
theorem key_int (x : Int) (h : -9223372036854775808 ≤ x ∧ x < 9223372036854775808) : keyOf Tryz.prog 3 (.int .i64 x) = some (.int .i64 x) := Maps.keyOf_int_mk Tryz.underlying3 (by
  have e : wrap64 x = x := by simp only [wrap64]; omega
  rw [← e]; exact wrap64_wf _)

theorem ofInt (n : Nat) (h : n < 1000000) : keyOf Tryz.prog 3 (.int .i64 (n : Int)) = some (.int .i64 (n : Int)) := key_int n (by omega)

set_option maxRecDepth 100000 in
set_option maxHeartbeats 1000000 in
theorem page_have (pb o mb k n g : Nat) (M : DataW Value) (w : World) (hn : n < 8) (hp : w.cell? ⟨pb, o + 1, none⟩ = some (.map (some mb))) (hM : MapOf w 3 mb k M) (hat : M.atKey (.int .i64 (n : Int)) (.held (.pointer none)) = .held (.pointer (some ⟨g, 0, none⟩))) :
    Calls Tryz.prog 111 #[.pointer (some ⟨pb, o, none⟩), .int .i64 (n : Int)] w fun e w' => e = .returned (.pointer (some ⟨g, 0, none⟩)) ∧ w = w' := by
  obtain ⟨v, hr, hv⟩ := hM.look (Maps.int_keyed Tryz.underlying3) Tryz.underlying127 (z := .pointer none) (Tryz.zeroValue181 _) (ofInt n (by omega))
  rw [hat] at hv
  simp only [DataW.held.injEq] at hv
  subst hv
  clear hM hat
  go_enter Tryz.func111, Tryz.ntmps111
  go_wp2
  go_ret
  exact ⟨rfl, rfl⟩

/-- What pool.page leaves where the page was not in memory. -/
def PageLoaded (w w' : World) (mb k n : Nat) (M : DataW Value) (g : Nat) (turn : Nat) (ps : Pairs) : Prop :=
  ∃ x, w.heap.size ≤ g ∧ w'.heap[g]? = some (.cells #[.int .i64 (turn : Int), x] 180 (0, 0)) ∧ w'.ownsRow w.heap.size 43 2 x ps.length (pairCells ps) ∧ x.ownBlock ≠ some g ∧
    MapOf w' 3 mb (k + 1) (M.put (.int .i64 (n : Int)) (.held (.pointer (some ⟨g, 0, none⟩)))) ∧ (∀ q, q < w.heap.size → q ≠ mb → w'.heap[q]? = w.heap[q]?) ∧ Below 0 w w'

set_option maxRecDepth 100000 in
set_option maxHeartbeats 2000000 in
theorem page_load (pb o vb db mb k n : Nat) (D : Array Value) (ws : List (Nat × List Value)) (v : Value) (c0 c1 : CopyV) (M : DataW Value) (w : World) (hn : n < 8) (hk : k ≤ 1000)
    (hp0 : w.cell? ⟨pb, o, none⟩ = some (.pointer (some ⟨vb, 0, none⟩))) (hp : w.cell? ⟨pb, o + 1, none⟩ = some (.map (some mb))) (hv : w.cell? ⟨vb, 0, none⟩ = some (.pointer (some ⟨db, 0, none⟩))) (hpw : pb < w.heap.size) (hvw : vb < w.heap.size) (hne : pb ≠ mb)
    (hd : DiskIs w db D ws v) (hc : PageOn D ws n c0 c1) (hM : MapOf w 3 mb k M) (hat : M.atKey (.int .i64 (n : Int)) (.held (.pointer none)) = .held (.pointer none)) :
    Calls Tryz.prog 111 #[.pointer (some ⟨pb, o, none⟩), .int .i64 (n : Int)] w fun e w' => ∃ g, e = .returned (.pointer (some ⟨g, 0, none⟩)) ∧ PageLoaded w w' mb k n M g (NewSt.of c0 c1 2).at' (NewSt.of c0 c1 2).rec' := by
  have hK := Maps.int_keyed (P := Tryz.prog) Tryz.underlying3
  have hkey := ofInt n (by omega)
  obtain ⟨u, hr, hu⟩ := hM.look hK Tryz.underlying127 (z := .pointer none) (Tryz.zeroValue181 _) hkey
  rw [hat] at hu
  simp only [DataW.held.injEq] at hu
  subst hu
  have KL := load_any pb o vb db n D ws v c0 c1 w.drew hn hp0 hv hpw hvw (hd.below ((Below.refl _ w).drew)) hc
  have HKL := @id (Hid (Calls _ _ _ _ _)) KL
  generalize (NewSt.of c0 c1 2).at' = turn at HKL ⊢
  generalize (NewSt.of c0 c1 2).rec' = ps at HKL ⊢
  have HM : Hid (MapOf w 3 mb k M) := hM
  have HUP : Hid (∀ w1 g, MapOf w1 3 mb k M → ∃ w2, (Instr.mapUpdate 127 (.map (some mb)) (.int .i64 (n : Int)) (.pointer (some ⟨g, 0, none⟩))).run Tryz.prog w1 = .ok () w2 ∧ MapOf w2 3 mb (k + 1) (M.put (.int .i64 (n : Int)) (.held (.pointer (some ⟨g, 0, none⟩)))) ∧ w1.grownBy w2 (some mb)) := fun w1 g h1 =>
    World.ownsMap.update h1 hK Tryz.underlying127 (by unfold maxLen; omega) hkey rfl
  have HLK : Hid (∀ w2 g, MapOf w2 3 mb (k + 1) (M.put (.int .i64 (n : Int)) (.held (.pointer (some ⟨g, 0, none⟩)))) → (Instr.lookup 127 (.map (some mb)) (.int .i64 (n : Int)) false).run Tryz.prog w2 = .ok (.pointer (some ⟨g, 0, none⟩)) w2) := fun w2 g h2 => by
    obtain ⟨u, hr, hu⟩ := h2.look hK Tryz.underlying127 (z := .pointer none) (Tryz.zeroValue181 _) hkey
    have e : (M.put (.int .i64 (n : Int)) (.held (.pointer (some ⟨g, 0, none⟩)))).atKey (.int .i64 (n : Int)) (.held (.pointer none)) = .held (.pointer (some ⟨g, 0, none⟩)) := Maps.atKey_put_same (World.ownsMap.isMap hM) (by simp [WideAt.IsKeyLit]) _ _
    rw [e] at hu
    simp only [DataW.held.injEq] at hu
    subst hu
    exact hr
  have hmw : mb < w.heap.size := hM.lt
  clear hM hat hkey KL hd hc hp0 hv
  go_enter Tryz.func111, Tryz.ntmps111
  go_wp2
  go_region_held3 (fun w' => w'.cell? ⟨pb, o + 1, none⟩ = some (.map (some mb)))
    (go_keep)
    (first
      | (go_at_call 143; go_must (
          refine HKL.out.mono ?_
          rintro e w1 ⟨g, x, rfl, hg1, hg2, hx, hxg, hb1⟩
          have hb1' : Below w.heap.size w w1 := (Below.refl _ w).drew.trans hb1
          have hm1 : MapOf w1 3 mb k M := HM.out.below hb1'
          obtain ⟨w2, hrun, hm2, hgr⟩ := HUP.out w1 g hm1
          have hlk := HLK.out w2 g hm2
          have hp1 := (hb1'.cell (p := ⟨pb, o + 1, none⟩) hpw).trans hp
          have hp2 : w2.cell? ⟨pb, o + 1, none⟩ = some (.map (some mb)) := (World.cell?_of_block (hgr.block pb (by have := hb1'.size; omega) (by simp [hne]))).trans hp1
          have HFIN : Hid (PageLoaded w w2 mb k n M g turn ps) := by
            have hz := hb1'.size
            have hgl := lt_of_block' hg2
            refine ⟨x, hg1, (hgr.block g hgl (by simp; simp at hg1; omega)).trans hg2, owns_off hx (fun q hq => hgr.block q (hx.lt q hq).2 (by have := (hx.lt q hq).1; simp at this ⊢; omega)), hxg, hm2, fun q h1 h2 => (hgr.block q (by omega) (by simp [h2])).trans (hb1'.block q h1), ?_⟩
            exact ⟨hgr.os.trans hb1'.os, hgr.tape.trans hb1'.tape, hgr.output.trans hb1'.output, by have := hgr.size; omega, fun q hq => by omega⟩
          clear hg1 hg2 hx hxg hb1 hb1' hm1 hm2 hgr)))
  all_goals
    go_wp2
    go_ret
    exact ⟨_, rfl, HFIN.out⟩
end Go.Proofs.YtihbngfbcnojcaaGreat

namespace Go.Proofs.YtihbngfbcnojcaaGreat
open Go.RowKit

/-- How a transaction holds a key, as its table of held keys says it. -/
def HoldIs (w : World) (hb nH : Nat) (H : DataW Value) (key : ByteArray) (x : Int) : Prop :=
  MapOf w 9 hb nH H ∧ H.atKey (.string key.data.toList) (.held (.int .i64 0)) = .held (.int .i64 x) ∧ 0 ≤ x ∧ x ≤ 2
/-- An open transaction at tb. -/
def TxIs (w : World) (tb : Nat) (last : Int) (hb : Nat) : Prop := w.heap[tb]? = some (.cells #[.int .i64 last, .map (some hb)] 359 (0, 0))
/-- What the open transactions hold of a key. -/
def HoldsIs (w : World) (M : DataW Value) (key : ByteArray) (f : Int → Int) : Prop :=
  ∀ (x : Int) (v : Value), (∀ zd, M.atKey (.int .i64 x) zd = .held v) → ∃ tb last hb nH H, v = .pointer (some ⟨tb, 0, none⟩) ∧ TxIs w tb last hb ∧ HoldIs w hb nH H key (f x)

theorem HoldsIs.below {w w' : World} {M : DataW Value} {key : ByteArray} {f : Int → Int} (h : HoldsIs w M key f) (hb : Below w.heap.size w w') : HoldsIs w' M key f := fun x v hx => by
  obtain ⟨tb, last, hb', nH, H, h1, h2, h3, h4⟩ := h x v hx
  exact ⟨tb, last, hb', nH, H, h1, (hb.block tb (lt_of_block' h2)).trans h2, h3.below hb, h4⟩

/-- The greatest hold of others. -/
def MostIs (M : DataW Value) (f : Int → Int) (t : Int) (left : Lit → Bool) (m : Int) : Prop :=
  0 ≤ m ∧ m ≤ 2 ∧ (∀ x : Int, Maps.has M (.int .i64 x) = true → left (.int .i64 x) = false → x ≠ t → f x ≤ m) ∧ (m = 0 ∨ ∃ x : Int, Maps.has M (.int .i64 x) = true ∧ x ≠ t ∧ f x = m)

theorem key_str (s : ByteArray) (h : s.size ≤ 1000) : keyOf Tryz.prog 9 (.string s) = some (.string s.data.toList) := WideMaps.keyOf_string_mk Tryz.underlying9 (by unfold maxLen; omega)

set_option maxRecDepth 100000 in
set_option maxHeartbeats 2000000 in
theorem heldByOthers_any (cb mb k : Nat) (M : DataW Value) (t : Int) (key : ByteArray) (f : Int → Int) (w : World) (hks : key.size ≤ 1000) (hc : w.cell? ⟨cb, 5, none⟩ = some (.map (some mb))) (hM : MapOf w 3 mb k M) (hH : HoldsIs w M key f) :
    Calls Tryz.prog 292 #[.pointer (some ⟨cb, 0, none⟩), .int .i64 t, .string key] w fun e w' => ∃ m, e = .returned (.int .i64 m) ∧ MostIs M f t (fun _ => false) m ∧ Below w.heap.size w w' := by
  have hK := Maps.int_keyed (P := Tryz.prog) Tryz.underlying3
  have HH : Hid (HoldsIs w M key f) := hH
  have HM : Hid (MapOf w 3 mb k M) := hM
  have hmw : mb < w.heap.size := hM.lt
  clear hM hH
  go_enter Tryz.func292, Tryz.ntmps292
  go_wp2_with (first
    | (at_range; refine wpList_range_own _ rfl _ 227 rfl 3 356 hK Tryz.underlying227 asIs mb k M rfl HM.out ?_; intro w0 hrg0 hg0 hs0))
  go_frame
  have hb0 : Below w.heap.size w w0 := ⟨hg0.os, hg0.tape, hg0.output, by omega, fun q hq => hg0.block q hq (by simp)⟩
  go_loopw [7] (fun mv wr => ∃ m left cnt, mv = .int .i64 m ∧ wr.ranges Tryz.prog 3 asIs mb w.heap.size k M left cnt ∧ MostIs M f t left m ∧ Below w.heap.size w wr) (fun _ wr => wr.rangeLeft mb w.heap.size)
  case atStart =>
    refine ⟨0, _, _, rfl, hrg0, ⟨by omega, by omega, fun x h1 h2 => ?_, .inl rfl⟩, hb0⟩
    rw [h1] at h2; cases h2
  case round =>
    obtain ⟨m, left, cnt, rfl, hrg, hmost, hbw⟩ := hrel
    have HMO : Hid (MostIs M f t left m) := hmost
    have HBW : Hid (Below w.heap.size w wr) := hbw
    have HRG : Hid (wr.ranges Tryz.prog 3 asIs mb w.heap.size k M left cnt) := hrg
    clear hrg0 hg0 hs0 hb0 hmost hbw
    go_wp2_with (first
      | (at_next; refine wpList_next_ranges _ rfl _ rfl 3 hK asIs (Value.int .i64) (fun v : Value => v) (fun key kl hkey => by obtain ⟨x, rfl, _⟩ := Maps.keyOf_int_inv Tryz.underlying3 hkey; exact ⟨x, rfl⟩) (fun v y hv => ⟨v, rfl⟩) mb w.heap.size k M left cnt rfl HRG.out ?_ ?_))
    · intro _ hl0
      go_wp2
      go_ret
      obtain ⟨h1, h2, h3, h4⟩ := HMO.out
      exact ⟨m, rfl, ⟨h1, h2, fun x hx _ hne => h3 x hx (hl0 _) hne, h4⟩, HBW.out⟩
    · intro x c kl yd yp w1 cnt1 hkey hlx hv hat hrg1 hlt hg1 hs1 hen
      obtain ⟨x', hx', rfl, hwf⟩ := Maps.keyOf_int_inv Tryz.underlying3 hkey
      simp only [Value.int.injEq, true_and] at hx'
      subst hx'
      simp only [asIs, Option.some.injEq, Prod.mk.injEq] at hv
      obtain ⟨rfl, rfl⟩ := hv
      obtain ⟨tb, last, hb, nH, H, rfl, htx, hmh, hhd, hf0, hf2⟩ := HH.out x c hat
      have hb1 : Below w.heap.size w w1 := HBW.out.trans ⟨hg1.os, hg1.tape, hg1.output, hg1.size, fun q hq => hg1.block q (by have := HBW.out.size; omega) (by simp; omega)⟩
      have htx1 : w1.heap[tb]? = some (.cells #[.int .i64 last, .map (some hb)] 359 (0, 0)) := (hb1.block tb (lt_of_block' htx)).trans htx
      have ct : w1.cell? ⟨tb, 1, none⟩ = some (.map (some hb)) := cell_at (j := 1) htx1 rfl
      obtain ⟨u, hlk, hu⟩ := (hmh.below hb1).look (Maps.string_keyed Tryz.underlying9) Tryz.underlying357 (z := .int .i64 0) (Tryz.zeroValue363 _) (key_str key hks)
      rw [hhd] at hu
      simp only [DataW.held.injEq] at hu
      subst hu
      have hhas : Maps.has M (.int .i64 x) = true := Maps.has_true_of_atKey hat
      have HME : Hid (w1.rangeLeft mb w.heap.size < wr.rangeLeft mb w.heap.size) := by show _ < _; rw [hrg1.left_eq, HRG.out.left_eq]; exact hlt
      have HR1 : Hid (w1.ranges Tryz.prog 3 asIs mb w.heap.size k M (fun z => left z && !z.sameKey (.int .i64 x)) cnt1) := hrg1
      have HB1 : Hid (Below w.heap.size w w1) := hb1
      have HLE : Hid (∀ z : Int, (left (.int .i64 z) && !(Lit.int .i64 z).sameKey (.int .i64 x)) = false → left (.int .i64 z) = false ∨ z = x) := fun z hz => by
        by_cases h : z = x
        · exact .inr h
        · rw [Maps.sameKey_ne (by simpa using h)] at hz
          simp at hz
          exact .inl hz
      clear hat hrg1 hlt hg1 hs1 htx htx1 hmh hhd hb1 hrg hkey
      by_cases hxt : x = t
      · subst hxt
        go_wp2
        refine ⟨⟨m, _, _, rfl, HR1.out, ?_, HB1.out⟩, HME.out⟩
        obtain ⟨h1, h2, h3, h4⟩ := HMO.out
        exact ⟨h1, h2, fun z hz hl hne => h3 z hz ((HLE.out z hl).resolve_right hne) hne, h4⟩
      · have hxt' : (x == t) = false := by simpa using hxt
        go_wp2
        refine ⟨⟨_, _, _, rfl, HR1.out, ?_, HB1.out⟩, HME.out⟩
        obtain ⟨h1, h2, h3, h4⟩ := HMO.out
        refine ⟨by omega, by omega, fun z hz hl hne => ?_, ?_⟩
        · rcases HLE.out z hl with h | h
          · have := h3 z hz h hne; omega
          · subst h; omega
        · by_cases hm : m ≤ f x
          · exact .inr ⟨x, hhas, hxt, by omega⟩
          · have e : max m (f x) = m := by omega
            rw [e]; exact h4
end Go.Proofs.YtihbngfbcnojcaaGreat

namespace Go.Proofs.YtihbngfbcnojcaaGreat
open Go.RowKit

/-- The number of a transaction is one of an open one, which lies at tb. -/
def OpenIs (M : DataW Value) (t : Int) (tb : Nat) : Prop := ∀ zd, M.atKey (.int .i64 t) zd = .held (.pointer (some ⟨tb, 0, none⟩))
def NotOpen (M : DataW Value) (t : Int) : Prop := ∀ zd, M.atKey (.int .i64 t) zd = zd
/-- A number that an int can be. -/
def IsInt (t : Int) : Prop := -9223372036854775808 ≤ t ∧ t < 9223372036854775808

theorem open_look {w : World} {mb k : Nat} {M : DataW Value} {t : Int} {tb : Nat} (ht : IsInt t) (hM : MapOf w 3 mb k M) (ho : OpenIs M t tb) :
    (Instr.lookup 227 (.map (some mb)) (.int .i64 t) false).run Tryz.prog w = .ok (.pointer (some ⟨tb, 0, none⟩)) w := by
  obtain ⟨v, hr, hv⟩ := hM.look (Maps.int_keyed Tryz.underlying3) Tryz.underlying227 (z := .pointer none) (Tryz.zeroValue356 _) (key_int t ht)
  rw [ho] at hv
  simp only [DataW.held.injEq] at hv
  subst hv
  exact hr
theorem open_none {w : World} {mb k : Nat} {M : DataW Value} {t : Int} (ht : IsInt t) (hM : MapOf w 3 mb k M) (ho : NotOpen M t) :
    (Instr.lookup 227 (.map (some mb)) (.int .i64 t) false).run Tryz.prog w = .ok (.pointer none) w := by
  obtain ⟨v, hr, hv⟩ := hM.look (Maps.int_keyed Tryz.underlying3) Tryz.underlying227 (z := .pointer none) (Tryz.zeroValue356 _) (key_int t ht)
  rw [ho] at hv
  simp only [DataW.held.injEq] at hv
  subst hv
  exact hr

set_option maxHeartbeats 400000 in
theorem mayEnd_yes (cb mb k tb : Nat) (M : DataW Value) (t : Int) (w : World) (ht : IsInt t) (hc : w.cell? ⟨cb, 5, none⟩ = some (.map (some mb))) (hM : MapOf w 3 mb k M) (ho : OpenIs M t tb) :
    Calls Tryz.prog 278 #[.pointer (some ⟨cb, 0, none⟩), .int .i64 t] w fun e w' => e = .returned (.int .i64 0) ∧ w = w' := by
  have hl := open_look ht hM ho
  clear hM ho
  go_enter Tryz.func278, Tryz.ntmps278
  go_wp2
  go_ret
  exact ⟨rfl, rfl⟩
set_option maxHeartbeats 400000 in
theorem mayEnd_no (cb mb k : Nat) (M : DataW Value) (t : Int) (w : World) (ht : IsInt t) (hc : w.cell? ⟨cb, 5, none⟩ = some (.map (some mb))) (hM : MapOf w 3 mb k M) (ho : NotOpen M t) :
    Calls Tryz.prog 278 #[.pointer (some ⟨cb, 0, none⟩), .int .i64 t] w fun e w' => e = .returned (.int .i64 5) ∧ w = w' := by
  have hl := open_none ht hM ho
  clear hM ho
  go_enter Tryz.func278, Tryz.ntmps278
  go_wp2
  go_ret
  exact ⟨rfl, rfl⟩

/-- What mayName answers. -/
def nameErr (isOpen : Bool) (key : ByteArray) : Int := if isOpen = false then 5 else if key.size < 1 ∨ 8 < key.size then 6 else 0

set_option maxHeartbeats 1000000 in
theorem mayName_any (cb mb k : Nat) (M : DataW Value) (t : Int) (key : ByteArray) (b : Bool) (w : World) (ht : IsInt t) (hks : key.size ≤ 140737488355328) (hc : w.cell? ⟨cb, 5, none⟩ = some (.map (some mb))) (hM : MapOf w 3 mb k M) (ho : (b = true ∧ ∃ tb, OpenIs M t tb) ∨ (b = false ∧ NotOpen M t)) :
    Calls Tryz.prog 291 #[.pointer (some ⟨cb, 0, none⟩), .int .i64 t, .string key] w fun e w' => e = .returned (.int .i64 (nameErr b key)) ∧ w = w' := by
  rcases ho with ⟨rfl, tb, ho⟩ | ⟨rfl, ho⟩
  · have KM := mayEnd_yes cb mb k tb M t w ht hc hM ho
    clear hM ho
    by_cases h1 : key.size < 1
    · have e1 : nameErr true key = 6 := by simp [nameErr, h1]
      have h1' : (key.size : Int) < 1 := by omega
      go_enter Tryz.func291, Tryz.ntmps291
      go_wp2_with (first | (go_at_call 278; refine KM.mono ?_; rintro e w' ⟨rfl, rfl⟩))
      go_ret
      exact ⟨by rw [e1]; rfl, rfl⟩
    · by_cases h2 : 8 < key.size
      · have e1 : nameErr true key = 6 := by simp [nameErr, h2]
        have h1' : ¬ (key.size : Int) < 1 := by omega
        have h2' : (8 : Int) < (key.size : Int) := by omega
        go_enter Tryz.func291, Tryz.ntmps291
        go_wp2_with (first | (go_at_call 278; refine KM.mono ?_; rintro e w' ⟨rfl, rfl⟩))
        go_ret
        exact ⟨by rw [e1]; rfl, rfl⟩
      · have e1 : nameErr true key = 0 := by simp [nameErr, h1, h2]
        have h1' : ¬ (key.size : Int) < 1 := by omega
        have h2' : ¬ (8 : Int) < (key.size : Int) := by omega
        go_enter Tryz.func291, Tryz.ntmps291
        go_wp2_with (first | (go_at_call 278; refine KM.mono ?_; rintro e w' ⟨rfl, rfl⟩))
        go_ret
        exact ⟨by rw [e1]; rfl, rfl⟩
  · have KM := mayEnd_no cb mb k M t w ht hc hM ho
    have e1 : nameErr false key = 5 := by simp [nameErr]
    clear hM ho
    go_enter Tryz.func291, Tryz.ntmps291
    go_wp2_with (first | (go_at_call 278; refine KM.mono ?_; rintro e w' ⟨rfl, rfl⟩))
    go_ret
    exact ⟨by rw [e1]; rfl, rfl⟩

set_option maxHeartbeats 400000 in
theorem spent_any (cb : Nat) (n : Int) (w : World) (hc : w.cell? ⟨cb, 7, none⟩ = some (.int .i64 n)) :
    Calls Tryz.prog 285 #[.pointer (some ⟨cb, 0, none⟩)] w fun e w' => e = .returned (.bool (decide (120 ≤ n))) ∧ w = w' := by
  go_enter Tryz.func285, Tryz.ntmps285
  go_wp2
  go_ret
  exact ⟨by simp, rfl⟩

set_option maxHeartbeats 400000 in
theorem entryAt_any (n : Nat) (w : World) (h1 : 1 ≤ n) (h2 : n ≤ 100000) :
    Calls Tryz.prog 149 #[.int .i64 (n : Int)] w fun e w' => e = .returned (.int .i64 ((33 + n : Nat) : Int)) ∧ w = w' := by
  have e1 : wrap64 (34 + (n : Int)) = 34 + (n : Int) := by simp only [wrap64]; omega
  have e2 : wrap64 (34 + (n : Int) - 1) = 34 + (n : Int) - 1 := by simp only [wrap64]; omega
  have KP := pageAt_any 8 0 w (by omega) (by omega)
  go_enter Tryz.func149, Tryz.ntmps149
  go_wp2_with (first | (go_at_call 164; refine KP.mono ?_; rintro e w' ⟨rfl, rfl⟩))
  go_ret
  exact ⟨by simp; omega, rfl⟩

set_option maxHeartbeats 1000000 in
/-- The table of held keys takes a key. -/
theorem grant_any (cb mb k tb hb nH : Nat) (M H : DataW Value) (t : Int) (key : ByteArray) (last h x : Int) (w : World) (ht : IsInt t) (hks : key.size ≤ 1000) (hnH : nH ≤ 100000) (hc : w.cell? ⟨cb, 5, none⟩ = some (.map (some mb))) (hM : MapOf w 3 mb k M) (ho : OpenIs M t tb) (htx : TxIs w tb last hb) (hh : HoldIs w hb nH H key x) :
    Calls Tryz.prog 294 #[.pointer (some ⟨cb, 0, none⟩), .int .i64 t, .string key, .int .i64 h] w fun e w' => e = .returned (.tuple #[]) ∧ MapOf w' 9 hb (nH + 1) (H.put (.string key.data.toList) (.held (.int .i64 (max x h)))) ∧ (∀ q, q ≠ hb → w'.heap[q]? = w.heap[q]?) ∧ w'.heap.size = w.heap.size ∧ Below 0 w w' := by
  have hl := open_look ht hM ho
  have ct : w.cell? ⟨tb, 1, none⟩ = some (.map (some hb)) := cell_at (j := 1) htx rfl
  obtain ⟨hmh, hat, _, _⟩ := hh
  obtain ⟨u, hlk, hu⟩ := hmh.look (Maps.string_keyed Tryz.underlying9) Tryz.underlying357 (z := .int .i64 0) (Tryz.zeroValue363 _) (key_str key hks)
  rw [hat] at hu
  simp only [DataW.held.injEq] at hu
  subst hu
  obtain ⟨w2, hup, hm2, htu⟩ := World.ownsMap.store (val := .int .i64 (max x h)) hmh (Maps.string_keyed Tryz.underlying9) Tryz.underlying357 (by unfold maxLen; omega) (key_str key hks) rfl
  have hgr := htu.grown
  have HM2 : Hid (MapOf w2 9 hb (nH + 1) (H.put (.string key.data.toList) (.held (.int .i64 (max x h))))) := hm2
  have HTU : Hid (w.mapTurned w2 hb) := htu
  clear hM ho htx hmh hat hm2 hgr htu
  go_enter Tryz.func294, Tryz.ntmps294
  go_wp2
  go_end0
  obtain ⟨es, cl, es', cl', h1, h2⟩ := HTU.out
  have hz : w2.heap.size = w.heap.size := by rw [h2]; simp [ChangeMaps.setBlock]
  have ho : ∀ q, q ≠ hb → w2.heap[q]? = w.heap[q]? := fun q hq => by rw [h2]; exact ChangeMaps.heap_setBlock_other h1 _ hq
  exact ⟨rfl, HM2.out, ho, hz, by rw [h2]; rfl, by rw [h2]; rfl, by rw [h2]; rfl, by omega, fun q hq => by omega⟩
end Go.Proofs.YtihbngfbcnojcaaGreat
