import Derived.Test.YtihbngfbcnojcaaGreatNewsE
namespace Go.Proofs.YtihbngfbcnojcaaGreat
open Go.RowKit

/-- A step of a script, as the model has it. -/
structure OpV where
  (kind n mode t : Int)
  (key val : ByteArray)
  (keep tear fuse : Int)

def OpV.cells (o : OpV) : List Value := [.int .i64 o.kind, .int .i64 o.n, .int .i64 o.mode, .int .i64 o.t, .string o.key, .string o.val, .int .u64 o.keep, .int .i64 o.tear, .int .i64 o.fuse]

/-- A script of 'len' steps lies there. -/
def ScriptAt (w : World) (sb so len : Nat) : Prop := ∀ i, i < len → ∃ o : OpV, ∀ j v, o.cells[j]? = some v → w.cell? ⟨sb, so + i * 9 + j, none⟩ = some v

set_option maxRecDepth 100000 in
set_option maxHeartbeats 2000000 in
theorem upTo_news (sb so len cap : Nat) (w : World) (hl : len ≤ maxLen) (hsc : ScriptAt w sb so len) :
    Calls Tryz.prog 16 #[.slice (some ⟨sb, so, none⟩) len cap, .int .i64 1, .int .i64 1, .int .i64 1] w fun e w' => e = .returned (.int .i64 (-1)) ∧ Below w.heap.size w w' := by
  unfold maxLen at hl
  go_enter Tryz.func16, Tryz.ntmps16
  go_wp2
  go_loopw [10] (fun i wr => ∃ k : Nat, k ≤ len ∧ i = .int .i64 k ∧ Below w.heap.size w wr ∧ ∃ v n xs, WIs w.heap.size wr v n xs ∧ n ≤ 6) (fun i _ => len - (intOf i).toNat)
  case atStart => exact ⟨0, by omega, rfl, (Below.refl _ _).alloc (Nat.le_refl _) _, .slice none 0 0, 0, [], ⟨heap_alloc_new _ _, World.ownsRow_nil _ _ _ _⟩, by omega⟩
  case round =>
    obtain ⟨k, hk, rfl, hb, v, n, xs, hw, hn⟩ := hrel
    have HB : Hid (Below w.heap.size w wr) := hb
    have HW : Hid (WIs w.heap.size wr v n xs) := hw
    have hsz : w.heap.size < wr.heap.size := lt_of_some hw.1
    by_cases hlt : k < len
    · have hlt' : (k : Int) < (len : Int) := by omega
      obtain ⟨⟨ok, on, om, ot, okey, oval, okeep, otear, ofuse⟩, ho⟩ := hsc k hlt
      have hc : ∀ j v, (OpV.cells ⟨ok, on, om, ot, okey, oval, okeep, otear, ofuse⟩)[j]? = some v → wr.cell? ⟨sb, so + k * 9 + j, none⟩ = some v := by
        intro j v hv
        have h1 := ho j v hv
        have h2 : sb < w.heap.size := World.block_lt_of_cell? w _ h1
        rw [hb.cell h2]; exact h1
      have c0 : wr.cell? ⟨sb, so + k * 9, none⟩ = some (.int .i64 ok) := hc 0 _ rfl
      have c1 : wr.cell? ⟨sb, so + k * 9 + 1, none⟩ = some (.int .i64 on) := hc 1 _ rfl
      have c2 : wr.cell? ⟨sb, so + k * 9 + 2, none⟩ = some (.int .i64 om) := hc 2 _ rfl
      have c3 : wr.cell? ⟨sb, so + k * 9 + 3, none⟩ = some (.int .i64 ot) := hc 3 _ rfl
      have c4 : wr.cell? ⟨sb, so + k * 9 + 4, none⟩ = some (.string okey) := hc 4 _ rfl
      have c5 : wr.cell? ⟨sb, so + k * 9 + 5, none⟩ = some (.string oval) := hc 5 _ rfl
      have c6 : wr.cell? ⟨sb, so + k * 9 + 6, none⟩ = some (.int .u64 okeep) := hc 6 _ rfl
      have c7 : wr.cell? ⟨sb, so + k * 9 + 7, none⟩ = some (.int .i64 otear) := hc 7 _ rfl
      have c8 : wr.cell? ⟨sb, so + k * 9 + 8, none⟩ = some (.int .i64 ofuse) := hc 8 _ rfl
      clear hb hw ho hc hsc
      by_cases hk1 : 1 < ok
      · go_wp2
        refine ⟨⟨k + 1, by omega, by go_num, HB.out.alloc (by omega) _, v, n, xs, HW.out.later ((Below.refl _ _).alloc (Nat.le_refl _) _), hn⟩, by simp [intOf]; omega⟩
      · have hst := fun o => step_any ok om (by omega) w.heap.size (.int .i64 on) (.int .i64 ot) (.string okey) (.string oval) (.int .u64 okeep) (.int .i64 otear) (.int .i64 0) (wr.alloc o) v n xs (HW.out.later ((Below.refl _ _).alloc (Nat.le_refl _) _)) hn
        have hown : v.ownBlock ≠ some wr.heap.size := fun e => by have := (HW.out.2.lt _ e).2; omega
        have HS := @id (Hid _) hst
        clear hst
        have hq : ok = 1 ∨ (¬ 1 ≤ ok ∧ (ok == 1) = false) := by
          by_cases h : ok = 1
          · exact .inl h
          · exact .inr ⟨by omega, by simpa using h⟩
        rcases hq with rfl | ⟨hq1, hq2⟩
        all_goals
          go_wp2_with (first
            | (go_at_call 38; go_must (
                refine (HS.out _).mono ?_
                rintro e w' ⟨rfl, hb3, hold, v', n', xs', hw', hn'⟩
                have hbb := hold wr.heap.size (by simp) (by omega) hown
                rw [heap_alloc_new] at hbb
                have d0 := cell_of_heap (j := 0) hbb rfl
                have d1 : w'.cell? ⟨w.heap.size, 0, none⟩ = some (.slice none 0 0) := cell_of_heap (j := 0) hw'.1 rfl
                have HW' : Hid (WIs w.heap.size w' v' n' xs') := hw'
                have HB' : Hid (Below w.heap.size w w') := (HB.out.alloc (by omega) _).trans hb3
                have hlo := looks_none w.heap.size w' d1
                clear hb3 hold hw' hbb c0 c1 c2 c3 c4 c5 c6 c7 c8 HS hown))
            | (go_at_call 39; go_must (refine hlo.mono ?_; rintro e w2 ⟨rfl, rfl⟩)))
          refine ⟨⟨k + 1, by omega, by go_num, HB'.out, v', n', xs', HW'.out, hn'⟩, by simp [intOf]; omega⟩
    · have hlt' : ¬ (k : Int) < (len : Int) := by omega
      go_wp2
      go_ret
      exact ⟨rfl, HB.out⟩
end Go.Proofs.YtihbngfbcnojcaaGreat
