import Derived.Test.YtihbngfbcnojcaaGreatLM
namespace Go.Proofs.YtihbngfbcnojcaaGreat
open Go.RowKit

/-- A volume's cells: the disk, the start, the count of stamps, the newer master record. -/
def volCells (db : Nat) (start count turn : Int) : Array Value := #[.pointer (some ⟨db, 0, none⟩), .int .u32 start, .int .u32 count, .int .i64 turn]

theorem setCell_block (w : World) (b j : Nat) (u : Value) (cs : Array Value) (t : TypeId) (h : w.heap[b]? = some (.cells cs t (0, 0))) :
    (w.setCell ⟨b, j, none⟩ u).heap[b]? = some (.cells (cs.setIfInBounds j u) t (0, 0)) := by
  rw [setCell_eq_setRow w b j cs t (0, 0) u h]
  exact setRow_heap w b cs _ t (0, 0) h

set_option maxHeartbeats 400000 in
theorem other_any (t : Int) (w : World) (h0 : 0 ≤ t) (h1 : t < 2) :
    Calls Tryz.prog 122 #[.int .i64 t] w fun e w' => e = .returned (.int .i64 (1 - t)) ∧ w = w' := by
  have hc : t = 0 ∨ t = 1 := by omega
  rcases hc with rfl | rfl
  all_goals
    go_enter Tryz.func122, Tryz.ntmps122
    go_wp2
    go_ret
    exact ⟨rfl, rfl⟩

set_option maxHeartbeats 400000 in
theorem masterAt_any (t : Int) (w : World) :
    Calls Tryz.prog 108 #[.int .i64 t] w fun e w' => e = .returned (.int .i64 t) ∧ w = w' := by
  go_enter Tryz.func108, Tryz.ntmps108
  go_wp2
  go_ret
  exact ⟨rfl, rfl⟩

set_option maxHeartbeats 1000000 in
theorem stamp_any (vb db : Nat) (start count turn : Int) (w : World) (hc : 0 ≤ count) (hc' : count < 4294967295) (hv : w.heap[vb]? = some (.cells (volCells db start count turn) 126 (0, 0))) :
    Calls Tryz.prog 124 #[.pointer (some ⟨vb, 0, none⟩)] w fun e w' => e = .returned (.agg #[.int .u32 start, .int .u32 (count + 1)]) ∧ w'.heap[vb]? = some (.cells (volCells db start (count + 1) turn) 126 (0, 0)) ∧ (∀ k, k < w.heap.size → k ≠ vb → w'.heap[k]? = w.heap[k]?) ∧ Below 0 w w' := by
  have hx : IntKind.u32.wrap (count + 1) = count + 1 := by rw [IntKind.wrap_u32]; omega
  have c1 : w.cell? ⟨vb, 1, none⟩ = some (.int .u32 start) := cell_at hv rfl
  have c2 : w.cell? ⟨vb, 2, none⟩ = some (.int .u32 count) := cell_at hv rfl
  have f2 := frozen_at 2 hv
  have HV : Hid (w.heap[vb]? = some (.cells (volCells db start count turn) 126 (0, 0))) := hv
  have hvw : vb < w.heap.size := lt_of_block' hv
  have hB0 : Below w.heap.size w (w.alloc (.cells #[.int .u32 0, .int .u32 0] 168)) := (Below.refl _ _).alloc (Nat.le_refl _) _
  have d1 := (hB0.cell hvw).trans c1
  have d2 := (hB0.cell hvw).trans c2
  have g2 := (hB0.frozen hvw).trans f2
  clear hv c1 c2 f2
  go_enter Tryz.func124, Tryz.ntmps124
  go_wp2
  have hv1 : ((w.setCell ⟨vb, 2, none⟩ (.int .u32 (count + 1))).alloc (.cells #[.int .u32 0, .int .u32 0] 168)).heap[vb]? = some (.cells (volCells db start (count + 1) turn) 126 (0, 0)) := by
    rw [Below.heap_alloc _ _ _ (by simpa using hvw), setCell_block w vb 2 _ _ _ HV.out]; rfl
  have hn1 : ((w.setCell ⟨vb, 2, none⟩ (.int .u32 (count + 1))).alloc (.cells #[.int .u32 0, .int .u32 0] 168)).heap[w.heap.size]? = some (.cells #[.int .u32 0, .int .u32 0] 168 (0, 0)) := by
    have := heap_alloc_new (w.setCell ⟨vb, 2, none⟩ (.int .u32 (count + 1))) (.cells #[.int .u32 0, .int .u32 0] 168); simpa using this
  have ho1 : ∀ k, k < w.heap.size → k ≠ vb → ((w.setCell ⟨vb, 2, none⟩ (.int .u32 (count + 1))).alloc (.cells #[.int .u32 0, .int .u32 0] 168)).heap[k]? = w.heap[k]? := fun k h1 h2 => by
    rw [Below.heap_alloc _ _ _ (by simpa using h1), Below.heap_setCell _ _ _ _ h2]
  have hb1 : Below 0 w ((w.setCell ⟨vb, 2, none⟩ (.int .u32 (count + 1))).alloc (.cells #[.int .u32 0, .int .u32 0] 168)) := ((Below.refl _ _).setCell (p := ⟨vb, 2, none⟩) (by simp) _).alloc (by simp) _
  revert hv1 hn1 ho1 hb1
  generalize (w.setCell ⟨vb, 2, none⟩ (.int .u32 (count + 1))).alloc (.cells #[.int .u32 0, .int .u32 0] 168) = w1
  intro hv1 hn1 ho1 hb1
  have c1 : w1.cell? ⟨vb, 1, none⟩ = some (.int .u32 start) := cell_at hv1 rfl
  have c2 : w1.cell? ⟨vb, 2, none⟩ = some (.int .u32 (count + 1)) := cell_at hv1 rfl
  have n0 : w1.cell? ⟨w.heap.size, 0, none⟩ = some (.int .u32 0) := cell_at hn1 rfl
  have n1 : w1.cell? ⟨w.heap.size, 1, none⟩ = some (.int .u32 0) := cell_at hn1 rfl
  have f0 := frozen_at 0 hn1
  have f1 := frozen_at 1 hn1
  have HV1 : Hid (w1.heap[vb]? = some (.cells (volCells db start (count + 1) turn) 126 (0, 0))) := hv1
  have HO1 : Hid (∀ k, k < w.heap.size → k ≠ vb → w1.heap[k]? = w.heap[k]?) := ho1
  have HB1 : Hid (Below 0 w w1) := hb1
  have HN1 : Hid (w1.heap[w.heap.size]? = some (.cells #[.int .u32 0, .int .u32 0] 168 (0, 0))) := hn1
  clear hv1 hn1 ho1 hb1 d1 d2 g2 hB0 HV
  go_region
  have HF : Hid (((w1.setCell ⟨w.heap.size, 0, none⟩ (.int .u32 start)).setCell ⟨w.heap.size, 1, none⟩ (.int .u32 (count + 1))).drew.heap[w.heap.size]? = some (.cells #[.int .u32 start, .int .u32 (count + 1)] 168 (0, 0))) := by
    exact (setCell_block _ _ 1 _ _ _ (setCell_block _ _ 0 _ _ _ HN1.out)).trans rfl
  all_goals
    go_wp2
    refine bodyPost_ret (v := .agg #[.int .u32 start, .int .u32 (count + 1)]) ?_ rfl ⟨rfl, ?_, fun k h1 h2 => ?_, ?_⟩
    · exact results_cell_row Tryz.results124 _ _ w.heap.size 168 #[.int .u32 start, .int .u32 (count + 1)] (0, 0) _ rfl HF.out Tryz.underlying168 rfl (by kernel_rfl)
    · exact (Below.heap_setCell _ _ _ _ (show vb ≠ w.heap.size by omega)).trans ((Below.heap_setCell _ _ _ _ (show vb ≠ w.heap.size by omega)).trans HV1.out)
    · exact (Below.heap_setCell _ _ _ _ (show k ≠ w.heap.size by omega)).trans ((Below.heap_setCell _ _ _ _ (show k ≠ w.heap.size by omega)).trans (HO1.out k h1 h2))
    · exact ((HB1.out.setCell (p := ⟨w.heap.size, 0, none⟩) (by simp) _).setCell (p := ⟨w.heap.size, 1, none⟩) (by simp) _).drew

theorem owns_wide {w : World} {base : Nat} {e : TypeId} {size : Nat} {v : Value} {n : Nat} {xs : List Value} (h : w.ownsRow base e size v n xs) (h0 : 0 < n) :
    ∃ g cap cur, v = .slice (some ⟨g, 0, none⟩) n cap ∧ base ≤ g ∧ w.heap[g]? = some (.cells cur e (0, 0)) ∧ n ≤ cap ∧ (∀ (j : Nat) u, xs[j]? = some u → cur[j]? = some u) := by
  rcases h.2 with ⟨_, h⟩ | ⟨g, cap, cur, h1, h2, h3, h4, _, _, h5⟩
  · omega
  · refine ⟨g, cap, cur, h1, h2, h3, h4, fun j u hu => ?_⟩
    rw [← h5, List.getElem?_take] at hu
    split at hu
    · simpa using hu
    · cases hu
theorem fillC_set : ∀ (S : List Value) (C : Array Value) (o i : Nat) (x : Value), (i < o ∨ o + S.length ≤ i) → fillC (C.setIfInBounds i x) o S = (fillC C o S).setIfInBounds i x
  | [], _, _, _, _, _ => rfl
  | v :: r, C, o, i, x, h => by
    have hne : i ≠ o := by simp at h; omega
    rw [fillC, fillC, Array.setIfInBounds_comm x v hne, fillC_set r _ (o + 1) i x (by simp at h; omega)]

theorem packMaster_any' (a b log mode : Int) (w : World) (ha : 0 ≤ a) (ha' : a < 4294967296) (hb : 0 ≤ b) (hb' : b < 4294967296) (hl : 0 ≤ log) (hl' : log < 4294967296) (hm : 0 ≤ mode) (hm' : mode < 256) :
    Calls Tryz.prog 123 #[.agg #[.int .u32 a, .int .u32 b], .agg #[.int .u32 log, .int .i64 mode]] w fun r w' => ∃ S : List Value, r = .returned (.agg S.toArray) ∧ Hid (S = sealed a b (masterBody log mode)) ∧ Hid (S.length = 64) ∧ Hid (∀ u ∈ S, u.oneCell' = true) ∧ Below w.heap.size w w' := by
  refine (packMaster_any a b log mode w ha ha' hb hb' hl hl' hm hm').mono ?_
  rintro e w' ⟨rfl, hb⟩
  exact ⟨_, rfl, rfl, sealed_length a b _ (by rw [masterBody_length]; omega), sealed_one a b _ (masterBody_one log mode), hb⟩

set_option maxRecDepth 100000 in
set_option maxHeartbeats 2000000 in
theorem mark_any (vb db : Nat) (start count turn log mode : Int) (D : Array Value) (w : World) (hs : 0 ≤ start) (hs' : start < 4294967296) (hc : 0 ≤ count) (hc' : count < 4294967295) (ht : 0 ≤ turn) (ht' : turn < 2) (hl : 0 ≤ log) (hl' : log < 4294967296) (hm : 0 ≤ mode) (hm' : mode < 256)
    (hne : vb ≠ db) (hv : w.heap[vb]? = some (.cells (volCells db start count turn) 126 (0, 0))) (hD : w.heap[db]? = some (.cells D 103 (0, 0))) (hDz : D.size = 27779) (hDv : D[27776]? = some (.slice none 0 0)) (hDf : D[27777]? = some (.int .i64 0)) :
    Calls Tryz.prog 85 #[.pointer (some ⟨vb, 0, none⟩), .agg #[.int .u32 log, .int .i64 mode]] w fun e w' => e = .returned (.tuple #[]) ∧ w'.heap[vb]? = some (.cells (volCells db start (count + 1) (1 - turn)) 126 (0, 0)) ∧
      w'.heap[db]? = some (.cells ((fillC D ((1 - turn).toNat * 64) (sealed start (count + 1) (masterBody log mode))).setIfInBounds 27776 (.slice none 0 0)) 103 (0, 0)) ∧ (∀ k, k < w.heap.size → k ≠ vb → k ≠ db → w'.heap[k]? = w.heap[k]?) ∧ Below 0 w w' := by
  have c0 : w.cell? ⟨vb, 0, none⟩ = some (.pointer (some ⟨db, 0, none⟩)) := cell_at hv rfl
  have c3 : w.cell? ⟨vb, 3, none⟩ = some (.int .i64 turn) := cell_at hv rfl
  have f3 := frozen_at 3 hv
  have HV : Hid (w.heap[vb]? = some (.cells (volCells db start count turn) 126 (0, 0))) := hv
  have HD : Hid (w.heap[db]? = some (.cells D 103 (0, 0))) := hD
  have HDv : Hid (D.size = 27779 ∧ D[27776]? = some (.slice none 0 0) ∧ D[27777]? = some (.int .i64 0)) := ⟨hDz, hDv, hDf⟩
  have hvw : vb < w.heap.size := lt_of_block' hv
  have hB0 : Below w.heap.size w (w.alloc (.cells #[.int .u32 log, .int .i64 mode] 133)) := (Below.refl _ _).alloc (Nat.le_refl _) _
  have d3 := (hB0.cell hvw).trans c3
  have g3 := (hB0.frozen hvw).trans f3
  clear hv hD hDz hDv hDf c0 c3 f3 hB0
  go_enter Tryz.func85, Tryz.ntmps85
  go_wp2_with (first | (go_at_call 122; refine (other_any _ _ ht ht').mono ?_; rintro e w' ⟨rfl, rfl⟩))
  have hv1 : ((w.setCell ⟨vb, 3, none⟩ (.int .i64 (1 - turn))).alloc (.cells #[.int .u32 log, .int .i64 mode] 133)).heap[vb]? = some (.cells (volCells db start count (1 - turn)) 126 (0, 0)) := by
    rw [Below.heap_alloc _ _ _ (by simpa using hvw), setCell_block w vb 3 _ _ _ HV.out]; rfl
  have hm1 : ((w.setCell ⟨vb, 3, none⟩ (.int .i64 (1 - turn))).alloc (.cells #[.int .u32 log, .int .i64 mode] 133)).heap[w.heap.size]? = some (.cells #[.int .u32 log, .int .i64 mode] 133 (0, 0)) := by
    have := heap_alloc_new (w.setCell ⟨vb, 3, none⟩ (.int .i64 (1 - turn))) (.cells #[.int .u32 log, .int .i64 mode] 133); simpa using this
  have ho1 : ∀ k, k < w.heap.size → k ≠ vb → ((w.setCell ⟨vb, 3, none⟩ (.int .i64 (1 - turn))).alloc (.cells #[.int .u32 log, .int .i64 mode] 133)).heap[k]? = w.heap[k]? := fun k h1 h2 => by
    rw [Below.heap_alloc _ _ _ (by simpa using h1), Below.heap_setCell _ _ _ _ h2]
  have hb1 : Below 0 w ((w.setCell ⟨vb, 3, none⟩ (.int .i64 (1 - turn))).alloc (.cells #[.int .u32 log, .int .i64 mode] 133)) := ((Below.refl _ _).setCell (p := ⟨vb, 3, none⟩) (by simp) _).alloc (by simp) _
  have hz1 : ((w.setCell ⟨vb, 3, none⟩ (.int .i64 (1 - turn))).alloc (.cells #[.int .u32 log, .int .i64 mode] 133)).heap.size = w.heap.size + 1 := by simp
  revert hv1 hm1 ho1 hb1 hz1
  generalize (w.setCell ⟨vb, 3, none⟩ (.int .i64 (1 - turn))).alloc (.cells #[.int .u32 log, .int .i64 mode] 133) = w1
  intro hv1 hm1 ho1 hb1 hz1
  have hdw : db < w.heap.size := lt_of_block' HD.out
  have HD1 : Hid (w1.heap[db]? = some (.cells D 103 (0, 0))) := (ho1 db hdw (Ne.symm hne)).trans HD.out
  have c0 : w1.cell? ⟨vb, 0, none⟩ = some (.pointer (some ⟨db, 0, none⟩)) := cell_at hv1 rfl
  have c3 : w1.cell? ⟨vb, 3, none⟩ = some (.int .i64 (1 - turn)) := cell_at hv1 rfl
  have m0 : w1.cell? ⟨w.heap.size, 0, none⟩ = some (.int .u32 log) := cell_at hm1 rfl
  have m1 : w1.cell? ⟨w.heap.size, 1, none⟩ = some (.int .i64 mode) := cell_at hm1 rfl
  have HV1 : Hid (w1.heap[vb]? = some (.cells (volCells db start count (1 - turn)) 126 (0, 0))) := hv1
  have HM1 : Hid (w1.heap[w.heap.size]? = some (.cells #[.int .u32 log, .int .i64 mode] 133 (0, 0))) := hm1
  have HZ1 : Hid (w1.heap.size = w.heap.size + 1) := hz1
  have HO1 : Hid (∀ k, k < w.heap.size → k ≠ vb → w1.heap[k]? = w.heap[k]?) := ho1
  have HB1 : Hid (Below 0 w w1) := hb1
  clear hv1 hm1 ho1 hb1 hz1 d3 g3
  go_region_held3 (fun w' => w'.cell? ⟨vb, 0, none⟩ = some (.pointer (some ⟨db, 0, none⟩)) ∧ w'.cell? ⟨vb, 3, none⟩ = some (.int .i64 (1 - turn)) ∧ w'.cell? ⟨w.heap.size, 0, none⟩ = some (.int .u32 log) ∧ w'.cell? ⟨w.heap.size, 1, none⟩ = some (.int .i64 mode))
    (go_keep)
    (first
      | (go_at_call 108; refine (masterAt_any _ _).mono ?_; rintro e w' ⟨rfl, rfl⟩)
      | (go_at_call 124; go_must (
          refine (stamp_any vb db start count (1 - turn) w1.drew hc hc' HV1.out).mono ?_
          rintro e w2 ⟨rfl, hv2, ho2, hb2⟩
          have hm2 := (ho2 w.heap.size (by have := HZ1.out; simp; omega) (by omega)).trans HM1.out
          have HV2 : Hid (w2.heap[vb]? = some (.cells (volCells db start (count + 1) (1 - turn)) 126 (0, 0))) := hv2
          have HD2 : Hid (w2.heap[db]? = some (.cells D 103 (0, 0))) := (ho2 db (by have := HZ1.out; simp; omega) (Ne.symm hne)).trans HD1.out
          have HO2 : Hid (∀ k, k < w.heap.size → k ≠ vb → w2.heap[k]? = w.heap[k]?) := fun k h1 h2 => (ho2 k (by have := HZ1.out; simp; omega) h2).trans (HO1.out k h1 h2)
          have HB2 : Hid (Below 0 w w2) := HB1.out.trans ((Below.refl _ _).drew.trans hb2)
          have HM2 : Hid (w2.heap[w.heap.size]? = some (.cells #[.int .u32 log, .int .i64 mode] 133 (0, 0))) := hm2
          have c0' : w2.cell? ⟨vb, 0, none⟩ = some (.pointer (some ⟨db, 0, none⟩)) := cell_at hv2 rfl
          have c3' : w2.cell? ⟨vb, 3, none⟩ = some (.int .i64 (1 - turn)) := cell_at hv2 rfl
          have m0' : w2.cell? ⟨w.heap.size, 0, none⟩ = some (.int .u32 log) := cell_at hm2 rfl
          have m1' : w2.cell? ⟨w.heap.size, 1, none⟩ = some (.int .i64 mode) := cell_at hm2 rfl
          clear hv2 ho2 hb2 hm2))
      | (go_at_call 123; go_must (
          refine (packMaster_any' start (count + 1) log mode w2 hs hs' (by omega) (by omega) hl hl' hm hm').mono ?_
          rintro e w3 ⟨S, rfl, HSS, HSL, HS1, hb3⟩
          have HV3 : Hid (w3.heap[vb]? = some (.cells (volCells db start (count + 1) (1 - turn)) 126 (0, 0))) := (hb3.block _ (lt_of_block' HV2.out)).trans HV2.out
          have HM3 : Hid (w3.heap[w.heap.size]? = some (.cells #[.int .u32 log, .int .i64 mode] 133 (0, 0))) := (hb3.block _ (lt_of_block' HM2.out)).trans HM2.out
          have HD3 : Hid (w3.heap[db]? = some (.cells D 103 (0, 0))) := (hb3.block _ (lt_of_block' HD2.out)).trans HD2.out
          have HO3 : Hid (∀ k, k < w.heap.size → k ≠ vb → w3.heap[k]? = w.heap[k]?) := fun k h1 h2 => (hb3.block _ (by have := HB2.out.size; omega)).trans (HO2.out k h1 h2)
          have HB3 : Hid (Below 0 w w3) := HB2.out.trans (hb3.mono (by omega))
          have c0'' : w3.cell? ⟨vb, 0, none⟩ = some (.pointer (some ⟨db, 0, none⟩)) := cell_at HV3.out rfl
          have c3'' : w3.cell? ⟨vb, 3, none⟩ = some (.int .i64 (1 - turn)) := cell_at HV3.out rfl
          have m0'' : w3.cell? ⟨w.heap.size, 0, none⟩ = some (.int .u32 log) := cell_at HM3.out rfl
          have m1'' : w3.cell? ⟨w.heap.size, 1, none⟩ = some (.int .i64 mode) := cell_at HM3.out rfl
          clear hb3))
      | (go_at_call 119; go_must (
          refine (diskWrite_any db w3.heap.size 0 (.slice none 0 0) [] (1 - turn) S D w3 HSL.out HS1.out (lt_of_block' HD3.out) (Nat.le_refl _) (World.ownsRow_nil _ _ _ _) (by omega) HD3.out HDv.out.2.1 HDv.out.2.2).mono ?_
          rintro e w4 ⟨rfl, g, cap, hown, hd4, ho4, hg4, hb4⟩
          have HV4 : Hid (w4.heap[vb]? = some (.cells (volCells db start (count + 1) (1 - turn)) 126 (0, 0))) := (ho4 _ (lt_of_block' HV3.out) hne (by simp [Value.ownBlock])).trans HV3.out
          have HM4 : Hid (w4.heap[w.heap.size]? = some (.cells #[.int .u32 log, .int .i64 mode] 133 (0, 0))) := (ho4 _ (lt_of_block' HM3.out) (by omega) (by simp [Value.ownBlock])).trans HM3.out
          have HO4 : Hid (∀ k, k < w.heap.size → k ≠ vb → k ≠ db → w4.heap[k]? = w.heap[k]?) := fun k h1 h2 h3 => (ho4 _ (by have := HB3.out.size; omega) h3 (by simp [Value.ownBlock])).trans (HO3.out k h1 h2)
          have HB4 : Hid (Below 0 w w4) := HB3.out.trans hb4
          have HW4 : Hid (w4.ownsRow w3.heap.size 143 65 (.slice (some ⟨g, 0, none⟩) (0 + 1) cap) (0 + 1) ([] ++ (Value.int .i64 (1 - turn) :: S))) := hown
          have HD4 : Hid (w4.heap[db]? = some (.cells (D.setIfInBounds 27776 (.slice (some ⟨g, 0, none⟩) (0 + 1) cap)) 103 (0, 0))) := hd4
          have c04 : w4.cell? ⟨vb, 0, none⟩ = some (.pointer (some ⟨db, 0, none⟩)) := cell_at HV4.out rfl
          have c34 : w4.cell? ⟨vb, 3, none⟩ = some (.int .i64 (1 - turn)) := cell_at HV4.out rfl
          have m04 : w4.cell? ⟨w.heap.size, 0, none⟩ = some (.int .u32 log) := cell_at HM4.out rfl
          have m14 : w4.cell? ⟨w.heap.size, 1, none⟩ = some (.int .i64 mode) := cell_at HM4.out rfl
          clear hown hd4 ho4 hg4 hb4)))
  have HT : Hid (((1 - turn).toNat : Int) = 1 - turn) := Int.toNat_of_nonneg (by omega)
  obtain ⟨g7, cap7, cur7, hsl, hg7b, hg7h, hc7, hcur⟩ := owns_wide HW4.out (by omega)
  simp only [Value.slice.injEq, Option.some.injEq, Addr.mk.injEq, and_true, true_and] at hsl
  obtain ⟨rfl, rfl⟩ := hsl
  have HX : Hid (∀ (j : Nat) u, (rowOf [((1 - turn).toNat, S)])[j]? = some u → cur7[j]? = some u) := by
    intro j u hu
    refine hcur j u ?_
    simpa [rowOf, HT.out] using hu
  have HOK : Hid (WsOk [((1 - turn).toNat, S)]) := by
    intro p hp
    simp at hp
    subst hp
    exact ⟨by show (1 - turn).toNat < 434; omega, HSL.out, HS1.out⟩
  have HG : Hid (w4.heap[g]? = some (.cells cur7 143 (0, 0)) ∧ w3.heap.size ≤ g) := ⟨hg7h, hg7b⟩
  have HDL : Hid (db < w3.heap.size) := lt_of_block' HD3.out
  clear hg7b hg7h hc7 hcur
  go_wp2_with (first
    | (go_at_call 117; go_must (
        refine (diskSync_any db w3.heap.size g cap [((1 - turn).toNat, S)] _ cur7 w4 HDL.out HG.out.2 HOK.out (by simp) HD4.out ?hz ?hv HG.out.1 HX.out).mono ?_
        case hz => simp; exact HDv.out.1
        case hv => simp [HDv.out.1]
        rintro e w5 ⟨rfl, hd5, ho5, hb5⟩
        have HV5 : Hid (w5.heap[vb]? = some (.cells (volCells db start (count + 1) (1 - turn)) 126 (0, 0))) := (ho5 _ (lt_of_block' HV4.out) hne).trans HV4.out
        have HO5 : Hid (∀ k, k < w.heap.size → k ≠ vb → k ≠ db → w5.heap[k]? = w.heap[k]?) := fun k h1 h2 h3 => (ho5 _ (by have := HB4.out.size; omega) h3).trans (HO4.out k h1 h2 h3)
        have HB5 : Hid (Below 0 w w5) := HB4.out.trans hb5
        have HD5 : Hid (w5.heap[db]? = some (.cells ((fillC D ((1 - turn).toNat * 64) (sealed start (count + 1) (masterBody log mode))).setIfInBounds 27776 (.slice none 0 0)) 103 (0, 0))) := by
          show _ = _
          rw [hd5, ← HSS.out]
          simp only [applyW, List.foldl_cons, List.foldl_nil]
          rw [fillC_set _ _ _ _ _ (Or.inr (by rw [HSL.out]; omega))]
          simp
        clear hd5 ho5 hb5)))
  go_end0
  exact ⟨rfl, HV5.out, HD5.out, HO5.out, HB5.out⟩
end Go.Proofs.YtihbngfbcnojcaaGreat
