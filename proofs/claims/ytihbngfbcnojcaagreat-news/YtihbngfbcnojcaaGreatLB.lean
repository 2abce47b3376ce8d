import Derived.Test.YtihbngfbcnojcaaGreatLA
import Derived.RegionTactic
import Derived.BigRegion
import Derived.Deep.RegionWith
namespace Go.Proofs.YtihbngfbcnojcaaGreat
open Go.RowKit

theorem fresh_after {w w1 : World} {o : Obj} {v1 : Value} (h : Grew (w.alloc o).drew (.slice none 0 0) w1 v1) : Below w.heap.size w w1 ∧ w.heap.size + 1 ≤ w1.heap.size ∧ w1.heap[w.heap.size]? = some o := by
  have hs := h.1.size
  have e1 : (w.alloc o).drew.heap.size = w.heap.size + 1 := by simp
  rw [e1] at hs
  have hbl : ∀ k, k < w.heap.size + 1 → w1.heap[k]? = (w.alloc o).heap[k]? := fun k hk => h.block (by rw [e1]; exact hk) (by simp [Value.ownBlock])
  refine ⟨⟨h.1.os, h.1.tape, h.1.output, by omega, fun k hk => ?_⟩, hs, ?_⟩
  · rw [hbl k (by omega)]; exact Below.heap_alloc w _ k hk
  · rw [hbl _ (by omega)]; exact heap_alloc_new w o
theorem Grew.below {B : Nat} {w w' : World} {v v' : Value} (h : Grew w v w' v') {base : Nat} {e : TypeId} {n : Nat} {xs : List Value} (ho : w.ownsRow base e 1 v n xs) (hB : B ≤ base) (hb : base ≤ w.heap.size) : Below B w w' :=
  ⟨h.1.os, h.1.tape, h.1.output, h.1.size, fun k hk => h.block (by omega) (fun e => by have := (ho.lt _ e).1; omega)⟩

set_option maxRecDepth 100000 in
set_option maxHeartbeats 1000000 in
theorem bytes_any (a b : Int) (w : World) (ha : 0 ≤ a) (ha' : a < 4294967296) (hb : 0 ≤ b) (hb' : b < 4294967296) :
    Calls Tryz.prog 213 #[.agg #[.int .u32 a, .int .u32 b]] w fun e w' => ∃ v', e = .returned v' ∧ w'.ownsRow (w.heap.size + 1) 5 1 v' 8 (be a 4 ++ be b 4) ∧ Below w.heap.size w w' := by
  have tok1 : True := trivial
  have hwa : IntKind.i64.wrap a = a := by rw [IntKind.wrap_i64]; omega
  have hwb : IntKind.i64.wrap b = b := by rw [IntKind.wrap_i64]; omega
  go_enter Tryz.func213, Tryz.ntmps213
  go_wp2
  go_region_with (first
    | (go_at_call 169; have _t := tok1; go_must (
        refine (appendNumber_any (w.heap.size + 1) _ 0 [] a 4 _ (World.ownsRow_nil _ _ _ _) (by simp) (by omega) ha ha' (by omega)).mono ?_
        rintro e w1 ⟨v1, rfl, hown1, hg1⟩
        obtain ⟨hB1, hS1, hbx2⟩ := fresh_after hg1
        have c1 : w1.cell? ⟨w.heap.size, 1, none⟩ = some (.int .u32 b) := cell_at (j := 1) hbx2 rfl
        have HO1 : Hid (w1.ownsRow (w.heap.size + 1) 5 1 v1 (0 + 4) ([] ++ be a 4)) := hown1
        have HB1 : Hid (Below w.heap.size w w1) := hB1
        have HS1 : Hid (w.heap.size + 1 ≤ w1.heap.size) := hS1
        clear tok1 hbx2 hg1 hown1 hB1 hS1))
    | (go_at_call 169; go_must (
        refine (appendNumber_any (w.heap.size + 1) _ (0 + 4) ([] ++ be a 4) b 4 _ HO1.out HS1.out (by omega) hb hb' (by omega)).mono ?_
        rintro e w2 ⟨v2, rfl, hown2, hg2⟩
        have HO2 : Hid (w2.ownsRow (w.heap.size + 1) 5 1 v2 (0 + 4 + 4) ([] ++ be a 4 ++ be b 4)) := hown2
        have HB2 : Hid (Below w.heap.size w w2) := HB1.out.trans (hg2.below HO1.out (by omega) HS1.out)
        clear hown2 hg2)))
  all_goals
    go_wp2
    go_ret
    exact ⟨v2, rfl, HO2.out, HB2.out⟩
end Go.Proofs.YtihbngfbcnojcaaGreat
