import Derived.Test.YtihbngfbcnojcaaGreatNewsD
namespace Go.Proofs.YtihbngfbcnojcaaGreat
open Go.RowKit

/-- The first player's store is one of mode Steal, just made. -/
def FirstSteal (N : Nat) (w : World) (xs : List Value) : Prop :=
  ∃ p q a, xs[0]? = some (.pointer (some ⟨p, 0, none⟩)) ∧ w.heap[p]? = some (.cells #[.pointer (some ⟨a, 0, none⟩), .pointer (some ⟨q, 0, none⟩), .bool false] 83 (0, 0)) ∧ StealAt N w a

theorem own_of {w : World} {base : Nat} {e : TypeId} {size : Nat} {v : Value} {n : Nat} {xs : List Value} (h : w.ownsRow base e size v n xs) {k : Nat} (hk : v.ownBlock = some k) : ∃ cur, w.heap[k]? = some (.cells cur e (0, 0)) := by
  rcases h.2 with ⟨rfl, _⟩ | ⟨g, cap, cur, rfl, _, hg, _⟩
  · simp [Value.ownBlock] at hk
  · simp [Value.ownBlock] at hk; subst hk; exact ⟨cur, hg⟩

theorem FirstSteal.next {N b : Nat} {w w' : World} {v : Value} {n : Nat} {xs : List Value} {x : Value} (h : FirstSteal N w xs) (hw : WIs b w v n xs)
    (hk : ∀ k, k < w.heap.size → k ≠ b → v.ownBlock ≠ some k → w'.heap[k]? = w.heap[k]?) : FirstSteal N w' (xs ++ [x]) := by
  obtain ⟨p, q, a, hx, hp, c, x0, x1, ha, h1, m, v0, v1, v2, v3, v4, hc, hm, h2, h3⟩ := h
  have keep : ∀ (k : Nat) (o : Obj), w.heap[k]? = some o → (∀ cur fz, o ≠ .cells cur 84 fz) → (∀ cur fz, o ≠ .cells cur 77 fz) → w'.heap[k]? = some o := by
    intro k o ho h69 h62
    rw [hk k (lt_of_some ho) ?_ ?_]
    · exact ho
    · rintro rfl; rw [hw.1] at ho; simp at ho; exact h62 _ _ ho.symm
    · intro e; obtain ⟨cur, hc⟩ := own_of hw.2 e; rw [hc] at ho; simp at ho; exact h69 _ _ ho.symm
  refine ⟨p, q, a, ?_, keep _ _ hp (by simp) (by simp), c, x0, x1, ha, keep _ _ h1 (by simp) (by simp), m, v0, v1, v2, v3, v4, hc, hm, keep _ _ h2 (by simp) (by simp), keep _ _ h3 (by simp) (by simp)⟩
  rw [List.getElem?_append_left (by cases xs with | nil => simp at hx | cons _ _ => simp)]
  exact hx

set_option maxRecDepth 100000 in
set_option maxHeartbeats 1000000 in
theorem sound_any (w : World) : Calls Tryz.prog 15 #[] w fun e w' => e = .returned (.bool true) ∧ Below w.heap.size w w' := by
  go_enter Tryz.func15, Tryz.ntmps15
  go_wp2
  go_loopw [2] (fun i wr => ∃ k : Nat, k ≤ 2 ∧ i = .int .i64 k ∧ Below w.heap.size w wr ∧ ∃ v xs, WIs w.heap.size wr v k xs ∧ (0 < k → FirstSteal w.heap.size wr xs)) (fun i _ => 2 - (intOf i).toNat)
  case atStart => exact ⟨0, by omega, rfl, (Below.refl _ _).alloc (Nat.le_refl _) _, .slice none 0 0, [], ⟨heap_alloc_new _ _, World.ownsRow_nil _ _ _ _⟩, fun h => absurd h (by omega)⟩
  case round =>
    obtain ⟨k, hk, rfl, hb, v, xs, hw, hf⟩ := hrel
    have HF : Hid (0 < k → FirstSteal w.heap.size wr xs) := hf
    have HB : Hid (Below w.heap.size w wr) := hb
    have HW : Hid (WIs w.heap.size wr v k xs) := hw
    clear hf hb hw
    match k, hk, HF, HW with
    | 0, _, HF, HW =>
      go_wp2_with (first | (go_at_call 37; go_must (refine (created_yes StealAt (fun N w w' a h hk => h.kept hk) (fun N N' w a h hle => h.mono hle) 0 (.inl rfl) new_steal _ _ _ _ _ _ _ _ _ _ _ _ _ HW.out (by omega)).mono ?_; rintro e w' ⟨rfl, hb2, v', p, q, a, hw2, hold, hp, hpp, hst⟩)))
      have hx0 : xs = [] := by have := HW.out.2.1; simpa using this
      refine ⟨⟨1, by omega, rfl, HB.out.trans hb2, v', _, hw2, fun _ => ⟨p, q, a, by simp [hx0], hpp, ?_⟩⟩, by simp [intOf]⟩
      exact hst.mono HB.out.size
    | 1, _, HF, HW =>
      go_wp2_with (first | (go_at_call 37; go_must (refine (created_yes (fun _ _ _ => True) (fun _ _ _ _ _ _ => trivial) (fun _ _ _ _ _ _ => trivial) 1 (.inr rfl) (fun w => (new_nosteal w).mono (by rintro e w' ⟨a, h1, h2, h3⟩; exact ⟨a, h1, h2, h3, trivial⟩)) _ _ _ _ _ _ _ _ _ _ _ _ _ HW.out (by omega)).mono ?_; rintro e w' ⟨rfl, hb2, v', p, q, a, hw2, hold, hp, hpp, hst⟩)))
      exact ⟨⟨2, by omega, rfl, HB.out.trans hb2, v', _, hw2, fun _ => (HF.out (by omega)).next HW.out hold⟩, by simp [intOf]⟩
    | 2, _, HF, HW =>
      obtain ⟨p, q, a, hx, hp, hst⟩ := HF.out (by omega)
      obtain ⟨h1, h2⟩ := HW.out
      rcases h2.2 with ⟨_, h⟩ | ⟨g, cap, cur, rfl, hg, hgg, hcap, hmax, hcs, htake⟩
      · cases h
      have c1 : wr.cell? ⟨w.heap.size, 1, none⟩ = some (.slice (some ⟨g, 0, none⟩) 2 cap) := cell_of_heap (j := 1) h1 rfl
      have c2 : wr.cell? ⟨g, 0, none⟩ = some (.pointer (some ⟨p, 0, none⟩)) := by
        refine cell_of_heap hgg ?_
        rw [← htake, List.getElem?_take] at hx
        simpa using hx
      have c3 : wr.cell? ⟨p, 0, none⟩ = some (.pointer (some ⟨a, 0, none⟩)) := cell_of_heap (j := 0) hp rfl
      have KB := begin_steal w.heap.size a wr hst HB.out.size
      clear hst hx hp hgg htake hcs HF h1 h2
      go_wp2_with (first | (go_at_call 19; refine KB.mono ?_; rintro e w' ⟨rfl, hb3⟩))
      go_ret
      exact ⟨rfl, HB.out.trans hb3⟩
end Go.Proofs.YtihbngfbcnojcaaGreat
