import Derived.Test.YtihbngfbcnojcaaGreatNewsB
namespace Go.Proofs.YtihbngfbcnojcaaGreat
open Go.RowKit

theorem created_any (m : Int) (b : Nat) (o0 o1 o3 o4 o5 o6 o7 o8 : Value) (w : World) (v : Value) (n : Nat) (xs : List Value) (hw : WIs b w v n xs) (h6 : n < 6) :
    Calls Tryz.prog 37 #[.pointer (some ⟨b, 0, none⟩), .agg #[o0, o1, .int .i64 m, o3, o4, o5, o6, o7, o8]] w fun e w' => e = .returned (.bool true) ∧ Below b w w' ∧
      (∀ k, k < w.heap.size → k ≠ b → v.ownBlock ≠ some k → w'.heap[k]? = w.heap[k]?) ∧ ∃ v' n' xs', WIs b w' v' n' xs' ∧ n' ≤ 6 := by
  by_cases h0 : m = 0
  · subst h0
    refine (created_yes (fun _ _ _ => True) (fun _ _ _ _ _ _ => trivial) (fun _ _ _ _ _ _ => trivial) 0 (.inl rfl) (fun w => (new_steal w).mono ?_) b o0 o1 o3 o4 o5 o6 o7 o8 w v n xs hw h6).mono ?_
    · rintro e w' ⟨a, h1, h2, h3, _⟩; exact ⟨a, h1, h2, h3, trivial⟩
    · rintro e w' ⟨h1, h2, v', p, q, a, h3, h4, _⟩; exact ⟨h1, h2, h4, v', _, _, h3, by omega⟩
  · by_cases h1 : m = 1
    · subst h1
      refine (created_yes (fun _ _ _ => True) (fun _ _ _ _ _ _ => trivial) (fun _ _ _ _ _ _ => trivial) 1 (.inr rfl) (fun w => (new_nosteal w).mono ?_) b o0 o1 o3 o4 o5 o6 o7 o8 w v n xs hw h6).mono ?_
      · rintro e w' ⟨a, h1, h2, h3⟩; exact ⟨a, h1, h2, h3, trivial⟩
      · rintro e w' ⟨h1, h2, v', p, q, a, h3, h4, _⟩; exact ⟨h1, h2, h4, v', _, _, h3, by omega⟩
    · refine (created_no m (by simpa using h0) (by simpa using h1) _ o0 o1 o3 o4 o5 o6 o7 o8 w).mono ?_
      rintro e w' ⟨h1, h2⟩
      exact ⟨h1, h2.mono (by have := lt_of_some hw.1; omega), fun k hk _ _ => h2.block k hk, v, n, xs, hw.later h2, by omega⟩

theorem owns_len {w : World} {base : Nat} {e : TypeId} {size : Nat} {v : Value} {n : Nat} {xs : List Value} (h : w.ownsRow base e size v n xs) : ∃ ad cap, v = .slice ad n cap := by
  rcases h.2 with ⟨h2, rfl⟩ | ⟨g, cap, cur, h2, _⟩
  · exact ⟨_, _, h2⟩
  · exact ⟨_, _, h2⟩

set_option maxHeartbeats 1000000 in
theorem step_new (m : Int) (b : Nat) (o1 o3 o4 o5 o6 o7 o8 : Value) (w : World) (v : Value) (n : Nat) (xs : List Value) (hw : WIs b w v n xs) (h6 : n < 6) :
    Calls Tryz.prog 38 #[.pointer (some ⟨b, 0, none⟩), .agg #[.int .i64 1, o1, .int .i64 m, o3, o4, o5, o6, o7, o8]] w fun e w' => e = .returned (.bool true) ∧ Below b w w' ∧
      (∀ k, k < w.heap.size → k ≠ b → v.ownBlock ≠ some k → w'.heap[k]? = w.heap[k]?) ∧ ∃ v' n' xs', WIs b w' v' n' xs' ∧ n' ≤ 6 := by
  obtain ⟨ad, cap, rfl⟩ := owns_len hw.2
  have hcb : w.cell? ⟨b, 1, none⟩ = some (.slice ad n cap) := cell_of_heap (j := 1) hw.1 rfl
  have hw' : ∀ o, WIs b (w.alloc o) (.slice ad n cap) n xs := fun o => hw.later ((Below.refl _ _).alloc (Nat.le_refl _) _)
  have hF : b < w.heap.size := lt_of_some hw.1
  go_enter Tryz.func38, Tryz.ntmps38
  go_wp2_with (first | (go_at_call 37; go_must (refine (created_any _ _ _ _ _ _ _ _ _ _ _ _ n xs (hw' _) h6).mono ?_; rintro e w' ⟨rfl, hb, hold, hx⟩)))
  go_ret
  refine ⟨rfl, ((Below.refl _ _).alloc (by omega) _).trans hb, fun k hk h1 h2 => ?_, hx⟩
  rw [hold k (by simp; omega) h1 h2]; exact Below.heap_alloc _ _ _ hk

set_option maxHeartbeats 1000000 in
theorem step_many (b : Nat) (o1 o2 o3 o4 o5 o6 o7 o8 : Value) (w : World) (v : Value) (n : Nat) (xs : List Value) (hw : WIs b w v n xs) (h6 : (6 : Int) ≤ (n : Int)) :
    Calls Tryz.prog 38 #[.pointer (some ⟨b, 0, none⟩), .agg #[.int .i64 1, o1, o2, o3, o4, o5, o6, o7, o8]] w fun e w' => e = .returned (.bool true) ∧ Below w.heap.size w w' := by
  obtain ⟨ad, cap, rfl⟩ := owns_len hw.2
  have hcb : w.cell? ⟨b, 1, none⟩ = some (.slice ad n cap) := cell_of_heap (j := 1) hw.1 rfl
  have hF : b < w.heap.size := lt_of_some hw.1
  go_enter Tryz.func38, Tryz.ntmps38
  go_wp2
  go_ret
  exact ⟨rfl, (Below.refl _ _).alloc (Nat.le_refl _) _⟩

set_option maxHeartbeats 1000000 in
theorem step_low (k : Int) (h1 : (k == 1) = false) (h11 : (k == 11) = false) (h2 : k < 2) (p : Option Addr) (o1 o2 o3 o4 o5 o6 o7 o8 : Value) (w : World) :
    Calls Tryz.prog 38 #[.pointer p, .agg #[.int .i64 k, o1, o2, o3, o4, o5, o6, o7, o8]] w fun e w' => e = .returned (.bool true) ∧ Below w.heap.size w w' := by
  go_enter Tryz.func38, Tryz.ntmps38
  go_wp2
  go_ret
  exact ⟨rfl, (Below.refl _ _).alloc (Nat.le_refl _) _⟩

theorem step_any (k m : Int) (hk : k ≤ 1) (b : Nat) (o1 o3 o4 o5 o6 o7 o8 : Value) (w : World) (v : Value) (n : Nat) (xs : List Value) (hw : WIs b w v n xs) (h6 : n ≤ 6) :
    Calls Tryz.prog 38 #[.pointer (some ⟨b, 0, none⟩), .agg #[.int .i64 k, o1, .int .i64 m, o3, o4, o5, o6, o7, o8]] w fun e w' => e = .returned (.bool true) ∧ Below b w w' ∧
      (∀ k, k < w.heap.size → k ≠ b → v.ownBlock ≠ some k → w'.heap[k]? = w.heap[k]?) ∧ ∃ v' n' xs', WIs b w' v' n' xs' ∧ n' ≤ 6 := by
  have hF : b < w.heap.size := lt_of_some hw.1
  by_cases h1 : k = 1
  · subst h1
    by_cases h : n < 6
    · exact step_new m b o1 o3 o4 o5 o6 o7 o8 w v n xs hw h
    · refine (step_many b o1 (.int .i64 m) o3 o4 o5 o6 o7 o8 w v n xs hw (by omega)).mono ?_
      rintro e w' ⟨h1, h2⟩
      exact ⟨h1, h2.mono (by omega), fun k hk _ _ => h2.block k hk, v, n, xs, hw.later h2, h6⟩
  · refine (step_low k (by simpa using h1) (by simp; omega) (by omega) _ o1 (.int .i64 m) o3 o4 o5 o6 o7 o8 w).mono ?_
    rintro e w' ⟨h1, h2⟩
    exact ⟨h1, h2.mono (by omega), fun k hk _ _ => h2.block k hk, v, n, xs, hw.later h2, h6⟩

set_option maxHeartbeats 1000000 in
theorem looks_none (b : Nat) (w : World) (hc : w.cell? ⟨b, 0, none⟩ = some (.slice none 0 0)) :
    Calls Tryz.prog 39 #[.pointer (some ⟨b, 0, none⟩)] w fun e w' => e = .returned (.bool true) ∧ w = w' := by
  go_enter Tryz.func39, Tryz.ntmps39
  go_wp2
  go_loop [3] (fun i => i = .int .i64 0) (fun _ => 0)
  case atStart => rfl
  case round =>
    subst hrel
    go_wp2
    go_ret
    exact ⟨rfl, rfl⟩
end Go.Proofs.YtihbngfbcnojcaaGreat
