import Derived.Test.YtihbngfbcnojcaaGreatMK
import Derived.WalkKit
import Derived.WalkSpells
import Derived.WalkLawsBesides
namespace Go.Proofs.YtihbngfbcnojcaaGreat
open Go.RowKit

set_option maxHeartbeats 400000 in
theorem newPool_any (p : Option Addr) (w : World) :
    Calls Tryz.prog 77 #[.pointer p] w fun e w' => e = .returned (.agg #[.pointer p, .map (some (w.heap.size + 1)), .map (some (w.heap.size + 1 + 1))]) ∧
      ((w.alloc (.cells #[.pointer p, .map (some (w.heap.size + 1)), .map (some (w.heap.size + 1 + 1))] 130)).alloc (.map #[] 0)).alloc (.map #[] 0) = w' := by
  have hmm := @run_makeMap Tryz.prog
  go_enter Tryz.func77, Tryz.ntmps77
  go_wp2
  exact bodyPost_ret (v := .agg #[.pointer p, .map (some (w.heap.size + 1)), .map (some (w.heap.size + 1 + 1))]) (by simp [results, Tryz.results77, go_sem]) rfl ⟨rfl, rfl⟩

set_option maxHeartbeats 400000 in
theorem newCore_any (p : Option Addr) (w : World) :
    Calls Tryz.prog 147 #[.pointer p] w fun e w' => e = .returned (.agg #[.pointer p, .int .i64 0, .pointer p, .map (some (w.heap.size + 1 + 1)),
        .map (some (w.heap.size + 1 + 1 + 1)), .map (some (w.heap.size + 1 + 1 + 1 + 1)), .int .i64 0, .int .i64 0]) ∧
      Below w.heap.size w w' ∧ w'.heap.size = w.heap.size + 5 ∧ w'.heap[w.heap.size + 1 + 1 + 1 + 1]? = some (.map #[] 0) := by
  have hmm := @run_makeMap Tryz.prog
  go_enter Tryz.func147, Tryz.ntmps147
  go_wp2_with (first | (go_at_call 77; refine (newPool_any _ _).mono ?_; rintro e w' ⟨rfl, rfl⟩))
  refine bodyPost_ret (v := .agg #[.pointer p, .int .i64 0, .pointer p, .map (some (w.heap.size + 1 + 1)),
        .map (some (w.heap.size + 1 + 1 + 1)), .map (some (w.heap.size + 1 + 1 + 1 + 1)), .int .i64 0, .int .i64 0]) (by simp [results, Tryz.results147, go_sem]) rfl ⟨rfl, ?_, ?_, ?_⟩
  · exact (((((Below.refl _ _).alloc (Nat.le_refl _) _).alloc (by simp) _).alloc (by simp; omega) _).alloc (by simp; omega) _).alloc (by simp; omega) _
  · simp
  · show (Array.push _ _)[_]? = _
    rw [Array.getElem?_push, if_pos (by simp)]

end Go.Proofs.YtihbngfbcnojcaaGreat
