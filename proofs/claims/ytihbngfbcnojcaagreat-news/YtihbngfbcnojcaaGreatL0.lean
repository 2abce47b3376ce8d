import Derived.WalkKit
import Derived.Maps.AppendAt
import Derived.Lib.AppendStr
import Derived.Lib.AppendZeros
namespace Go.Proofs.YtihbngfbcnojcaaGreat
open Go.RowKit

/-- From w to w' only the row of v may have turned, among what was there; and v' lies in that row, or in a new one. -/
def Grew (w : World) (v : Value) (w' : World) (v' : Value) : Prop := w.grownBy w' v.ownBlock ∧ (v'.ownBlock = v.ownBlock ∨ ∃ k, w.heap.size ≤ k ∧ v'.ownBlock = some k)

theorem Grew.refl (w : World) (v : Value) : Grew w v w v := ⟨⟨rfl, rfl, rfl, Nat.le_refl _, fun _ _ _ => rfl⟩, .inl rfl⟩

theorem Grew.trans {w w1 w2 : World} {v v1 v2 : Value} (h : Grew w v w1 v1) (k : Grew w1 v1 w2 v2) : Grew w v w2 v2 := by
  obtain ⟨h1, h2⟩ := h
  obtain ⟨k1, k2⟩ := k
  have hs := h1.size
  refine ⟨⟨k1.os.trans h1.os, k1.tape.trans h1.tape, k1.output.trans h1.output, Nat.le_trans hs k1.size, fun i hi hne => ?_⟩, ?_⟩
  · rw [k1.block i (by omega) ?_, h1.block i hi hne]
    rcases h2 with h2 | ⟨j, hj, h2⟩
    · rw [h2]; exact hne
    · rw [h2]; intro e; cases e; omega
  · rcases k2 with k2 | ⟨j, hj, k2⟩
    · rcases h2 with h2 | ⟨i, hi, h2⟩
      · exact .inl (k2.trans h2)
      · exact .inr ⟨i, hi, k2.trans h2⟩
    · exact .inr ⟨j, by omega, k2⟩

theorem Grew.alloc {w w1 : World} {v v1 : Value} (h : Grew w v w1 v1) (o : Obj) : Grew w v (w1.alloc o) v1 :=
  h.trans ⟨World.grownBy_alloc _ _ _, .inl rfl⟩

theorem Grew.append {w w1 w2 : World} {v v1 v2 : Value} (h : Grew w v w1 v1) (hg : w1.grownBy w2 v1.ownBlock) (ha : v2.ownBlock = v1.ownBlock ∨ v2.ownBlock = some w1.heap.size) : Grew w v w2 v2 :=
  h.trans ⟨hg, ha.imp id fun e => ⟨_, Nat.le_refl _, e⟩⟩

/-- What lies elsewhere stays. -/
theorem Grew.block {w w' : World} {v v' : Value} (h : Grew w v w' v') {k : Nat} (hk : k < w.heap.size) (hne : v.ownBlock ≠ some k) : w'.heap[k]? = w.heap[k]? := h.1.block k hk (fun e => hne e.symm)

/-- An append on a row of the call's own, from what its two arms leave. -/
theorem own_append {w : World} {base : Nat} {e : TypeId} {v : Value} {k n : Nat} {xs news : List Value} {r : Result Value} (hown : w.ownsRow base e 1 v k xs) (hb : base ≤ w.heap.size) (hl : news.length = n)
    (hnil : v = .slice none 0 0 → n = 0 → r = .ok v w)
    (hroom : ∀ g cap cur, v = .slice (some ⟨g, 0, none⟩) k cap → w.heap[g]? = some (.cells cur e (0, 0)) → cur.size = cap → k + n ≤ cap → r = .ok (.slice (some ⟨g, 0, none⟩) (k + n) cap) (w.setRow g (cur.toList.take k ++ news ++ cur.toList.drop (k + n)).toArray))
    (hgrow : ∀ ad cap, v = .slice ad k cap → cap < k + n → ∃ c rest, r = .ok (.slice (some ⟨w.heap.size, 0, none⟩) (k + n) c) (w.drew.alloc (.cells ((xs ++ news).toArray ++ rest) e)) ∧ k + n + rest.size = c ∧ c ≤ maxLen) :
    ∃ v' w', r = .ok v' w' ∧ w'.ownsRow base e 1 v' (k + n) (xs ++ news) ∧ Grew w v w' v' := by
  have hxl : xs.length = k := by simpa using hown.1
  have hlen : (xs ++ news).length = (k + n) * 1 := by rw [List.length_append, hxl, hl, Nat.mul_one]
  have grown : ∀ ad cap, v = .slice ad k cap → cap < k + n → ∃ v' w', r = .ok v' w' ∧ w'.ownsRow base e 1 v' (k + n) (xs ++ news) ∧ Grew w v w' v' := by
    intro ad cap hv hc
    obtain ⟨c, rest, hr, hcs, hcm⟩ := hgrow ad cap hv hc
    refine ⟨_, _, hr, ⟨hlen, .inr ⟨w.heap.size, c, _, rfl, hb, heap_alloc_new w.drew _, by omega, hcm, ?_, ?_⟩⟩, ⟨⟨rfl, rfl, rfl, by simp, fun i hi _ => Below.heap_alloc w.drew _ i hi⟩, .inr ⟨_, Nat.le_refl _, rfl⟩⟩⟩
    · simp only [Array.size_append, List.size_toArray, hlen]; omega
    · simp only [Array.toList_append]
      rw [← hlen]
      exact List.take_left
  rcases hown.2 with ⟨rfl, rfl⟩ | ⟨g, cap, cur, rfl, hbg, hg, hnc, hcm, hcs, htake⟩
  · by_cases hn : n = 0
    · subst hn
      have h1 : xs = [] := List.eq_nil_of_length_eq_zero hxl
      have h2 : news = [] := List.eq_nil_of_length_eq_zero hl
      subst h1 h2
      exact ⟨_, _, hnil rfl rfl, hown, Grew.refl _ _⟩
    · exact grown _ _ rfl (by omega)
  · by_cases hroom' : k + n ≤ cap
    · have hcs' : cur.size = cap := by simpa using hcs
      refine ⟨_, _, hroom g cap cur rfl hg hcs' hroom', ⟨hlen, .inr ⟨g, cap, _, rfl, hbg, setRow_heap w g cur _ e _ hg, hroom', hcm, ?_, ?_⟩⟩, ⟨⟨rfl, rfl, rfl, by simp, fun i _ hi => setRow_other w g i _ (fun e => hi (by simp [Value.ownBlock, e]))⟩, .inl rfl⟩⟩
      · simp only [List.size_toArray, List.length_append, List.length_take, List.length_drop, Array.length_toList, hl]
        omega
      · have ht' : cur.toList.take k = xs := by simpa using htake
        simp only [ht']
        rw [← hlen]
        exact List.take_left
    · exact grown _ _ rfl (by omega)

/-- append(b, s...): the bytes of a string. -/
theorem append_text {P : Program} {w : World} {base : Nat} {t u ty e : TypeId} {i : TypeInfo} (ht : P.underlying t = some (.slice e)) (hu : P.underlying u = some .string) (hi : P.info? e = some i) (hz : i.zero = some (.int .u8 0)) (h1 : i.size = 1) (hy : i.bytes = 1)
    {v : Value} {k : Nat} {xs : List Value} (hown : w.ownsRow base e 1 v k xs) (hb : base ≤ w.heap.size) (s : ByteArray) (hs : k + s.size ≤ 1000000) :
    ∃ v' w', (Builtin.append_ #[t, u] ty #[v, .string s]).run P w = .ok v' w' ∧ w'.ownsRow base e 1 v' (k + s.size) (xs ++ Lib.strCells s) ∧ Grew w v w' v' := by
  refine own_append hown hb (Lib.strCells_length s) ?_ ?_ ?_
  · rintro rfl h0
    have hf := Lib.run_firstCells_string (P := P) w 1 s
    rw [h0] at hf
    simp [Builtin.append_, run_underlying ht, run_underlying hu, sizeOf, typeInfo, hi, h1, Builtin.lenOf, h0, hf]
  · rintro g cap cur rfl hg hc hr
    exact Lib.run_append_room_string (P := P) w t u ty e i ht hu hi h1 g k cap cur hg s hr (by omega)
  · rintro ad cap rfl hc
    have hcl : grownCap w (k + s.size) cap e ≤ maxLen := grownCap_le_maxLen w _ _ e (by unfold maxLen; omega)
    have hge := grownCap_ge w (k + s.size) cap e
    refine ⟨grownCap w (k + s.size) cap e, Builtin.zeroCells (Value.int .u8 0).cells (grownCap w (k + s.size) cap e - (k + s.size)), ?_, by rw [size_zeroCells]; simp [Value.cells]; omega, hcl⟩
    rcases hown.2 with ⟨h, rfl⟩ | ⟨g, cap', cur, h, _, hg, _, _, _, htake⟩
    · simp at h
      obtain ⟨rfl, rfl⟩ := h
      have hx : xs = [] := List.eq_nil_of_length_eq_zero (by simpa using hown.1)
      subst hx
      have hr := run_append_nil_string (P := P) w t u ty e i (.int .u8 0) ht hu hi hz s (by omega) (by omega) (by rw [hy]; omega)
      rw [hr]
      have e1 : (s.data.map fun b => Value.int .u8 b.toNat) = (Lib.strCells s).toArray := by
        apply Array.ext'
        simp [Lib.strCells]
      simp [e1]
    · simp at h
      obtain ⟨rfl, rfl⟩ := h
      have hr := Lib.run_append_grow_string (P := P) w t u ty e i (.int .u8 0) ht hu hi hz ⟨g, 0, none⟩ k cap xs (by rw [h1]; simpa using hown.1) (hown.cells (g := g) rfl) s (by omega) (by omega) (by rw [hy]; exact growslice_fits (by omega) (by omega))
      rw [hr]
      simp

theorem zeroCells_u8 (n : Nat) : Builtin.zeroCells (Value.int .u8 0).cells n = (List.replicate n (Value.int .u8 0)).toArray := by
  apply Array.ext
  · simp [size_zeroCells, Value.cells]
  · intro i h1 h2
    simp [Builtin.zeroCells, Value.cells, Nat.mod_one]

/-- append(b, make([]byte, n)...). -/
theorem append_zeros {P : Program} {w : World} {base : Nat} {t u ty e : TypeId} {i : TypeInfo} {kn : IntKind} (ht : P.underlying t = some (.slice e)) (hu : P.underlying u = some (.int kn)) (hi : P.info? e = some i) (hz : i.zero = some (.int .u8 0)) (h1 : i.size = 1) (hy : i.bytes = 1)
    {v : Value} {k : Nat} {xs : List Value} (hown : w.ownsRow base e 1 v k xs) (hb : base ≤ w.heap.size) (n : Nat) (hs : k + n ≤ 1000000) :
    ∃ v' w', (Builtin.append_ #[t, u] ty #[v, .int .i64 n]).run P w = .ok v' w' ∧ w'.ownsRow base e 1 v' (k + n) (xs ++ List.replicate n (.int .u8 0)) ∧ Grew w v w' v' := by
  have hw : IntKind.i64.wrap (n : Int) = n := by rw [IntKind.wrap_i64]; omega
  have hneg : ¬ ((n : Int) < 0) := by omega
  have h48i : ¬ (281474976710656 < (n : Int)) := by omega
  refine own_append hown hb (by simp) ?_ ?_ ?_
  · rintro rfl h0
    subst h0
    simp [Builtin.append_, run_underlying ht, run_underlying hu, sizeOf, typeInfo, hi, hy, asInt, asIntOf, IntKind.wrap_i64]
  · rintro g cap cur rfl hg hc hr
    have hst := run_storeCells_at P g k e (List.replicate n (Value.int .u8 0)) 0 cur w hg (by simp; omega) (fun u hu => by rw [List.eq_of_mem_replicate hu]; rfl)
    simp only [Nat.add_zero, List.length_replicate] at hst
    by_cases h0 : n = 0
    · subst h0
      simp at hst
      simp [Builtin.append_, run_underlying ht, run_underlying hu, sizeOf, typeInfo, hi, h1, hy, asInt, asIntOf, IntKind.wrap_i64, Addr.add_lit, hst, show k ≤ cap by omega]
    · simp [Builtin.append_, run_underlying ht, run_underlying hu, sizeOf, typeInfo, zeroValue, hi, hz, h1, hy, asInt, asIntOf, hw, hneg, h48i, hr, h0, zeroCells_u8, Addr.add_lit, hst]
  · rintro ad cap rfl hc
    have hcl : grownCap w (k + n) cap e ≤ maxLen := grownCap_le_maxLen w _ _ e (by unfold maxLen; omega)
    have hge := grownCap_ge w (k + n) cap e
    refine ⟨grownCap w (k + n) cap e, Builtin.zeroCells (Value.int .u8 0).cells (grownCap w (k + n) cap e - (k + n)), ?_, by rw [size_zeroCells]; simp [Value.cells]; omega, hcl⟩
    have hn : ¬ (k + n ≤ cap) := by omega
    have h63' : ¬ (9223372036854775807 < ((k : Int) + (n : Int))) := by omega
    have h48' : ¬ (281474976710656 < Builtin.nextslicecap (k + n) cap) := by have := growslice_fits (bytes := 1) hc (by omega); omega
    have hf : (Builtin.firstCells 1 k (.slice ad k cap)).run P w.drew = .ok xs.toArray w.drew := by
      rcases hown.2 with ⟨h, rfl⟩ | ⟨g, cap', cur, h, _, hg, _, _, _, htake⟩
      · simp at h
        obtain ⟨rfl, rfl⟩ := h
        have hx : xs = [] := List.eq_nil_of_length_eq_zero (by simpa using hown.1)
        subst hx
        simp [run_firstCells_none]
      · simp at h
        obtain ⟨rfl, rfl⟩ := h
        exact run_firstCells_some (P := P) w.drew 1 k ⟨g, 0, none⟩ k cap xs (by simpa using hown.1) (by simpa using hown.cells (g := g) rfl)
    have h0 : ¬ n = 0 := by
      rcases hown.2 with ⟨h, rfl⟩ | ⟨g, cap', cur, h, _, hg, hle, _, _, htake⟩
      · simp at h; omega
      · simp at h; omega
    simp [Builtin.append_, run_underlying ht, run_underlying hu, sizeOf, typeInfo, zeroValue, hi, hz, h1, hy, asInt, asIntOf, hw, hneg, h48i, hn, h0, h63', h48', zeroCells_u8, Question.forced, hf, newRow, grownCap]
    congr 2
    apply Array.ext'
    simp [List.append_assoc]

theorem lt_of_block' {w : World} {k : Nat} {o : Obj} (h : w.heap[k]? = some o) : k < w.heap.size := (Array.getElem?_eq_some_iff.1 h).1
theorem cell_at {w : World} {b j : Nat} {cs : Array Value} {t : TypeId} {fz : Nat × Nat} {v : Value} (h : w.heap[b]? = some (.cells cs t fz)) (hv : cs[j]? = some v) : w.cell? ⟨b, j, none⟩ = some v := by
  simp [World.cell?, h, hv]
theorem frozen_at {w : World} {b : Nat} (j : Nat) {cs : Array Value} {t : TypeId} (h : w.heap[b]? = some (.cells cs t (0, 0))) : w.frozen? ⟨b, j, none⟩ = false := by
  simp [World.frozen?, h]
theorem setCell_at (w : World) (b j : Nat) (u : Value) (cs : Array Value) (t : TypeId) (h : w.heap[b]? = some (.cells cs t (0, 0))) :
    (w.setCell ⟨b, j, none⟩ u).heap[b]? = some (.cells (cs.setIfInBounds j u) t (0, 0)) := by
  rw [setCell_eq_setRow w b j cs t (0, 0) u h]
  exact setRow_heap w b cs _ t (0, 0) h
theorem owns_form {w : World} {base : Nat} {e : TypeId} {size : Nat} {v : Value} {n : Nat} {xs : List Value} (h : w.ownsRow base e size v n xs) : ∃ ad cap, v = .slice ad n cap := by
  rcases h.2 with ⟨h2, rfl⟩ | ⟨g, cap, cur, h2, _⟩
  · exact ⟨_, _, h2⟩
  · exact ⟨_, _, h2⟩
/-- A row of the call's own that is not empty: its block, its cells. -/
theorem owns_row {w : World} {base : Nat} {e : TypeId} {v : Value} {n : Nat} {xs : List Value} (h : w.ownsRow base e 1 v n xs) (h0 : 0 < n) :
    ∃ g cap cur, v = .slice (some ⟨g, 0, none⟩) n cap ∧ base ≤ g ∧ w.heap[g]? = some (.cells cur e (0, 0)) ∧ n ≤ cap ∧ (∀ (j : Nat) u, xs[j]? = some u → cur[j]? = some u) := by
  rcases h.2 with ⟨_, h⟩ | ⟨g, cap, cur, h1, h2, h3, h4, _, _, h5⟩
  · omega
  · refine ⟨g, cap, cur, h1, h2, h3, h4, fun j u hu => ?_⟩
    rw [← h5, List.getElem?_take] at hu
    split at hu
    · simpa using hu
    · cases hu
/-- A store into a row of the call's own. -/
theorem owns_set {w : World} {base : Nat} {e : TypeId} {g n cap : Nat} {xs : List Value} (h : w.ownsRow base e 1 (.slice (some ⟨g, 0, none⟩) n cap) n xs) (j : Nat) (u : Value) :
    (w.setCell ⟨g, j, none⟩ u).ownsRow base e 1 (.slice (some ⟨g, 0, none⟩) n cap) n (xs.set j u) := by
  rcases h.2 with ⟨h1, _⟩ | ⟨g', cap', cur, h1, h2, h3, h4, h5, h6, h7⟩
  · cases h1
  · simp at h1
    obtain ⟨rfl, rfl⟩ := h1
    refine ⟨by simpa using h.1, .inr ⟨g, cap, _, rfl, h2, setCell_at w g j u cur e h3, h4, h5, by simpa using h6, ?_⟩⟩
    rw [← h7]
    simp [List.take_set]
theorem Grew.store {w w1 : World} {v : Value} {g n cap : Nat} (h : Grew w v w1 (.slice (some ⟨g, 0, none⟩) n cap)) (j : Nat) (u : Value) : Grew w v (w1.setCell ⟨g, j, none⟩ u) (.slice (some ⟨g, 0, none⟩) n cap) :=
  h.trans ⟨⟨rfl, rfl, rfl, by simp [World.setCell], fun k _ hne => Below.heap_setCell _ _ _ _ (fun e => hne (by simp [Value.ownBlock, e]))⟩, .inl rfl⟩

/-- The last bytes of a number, the high one first. -/
def be (n : Int) : Nat → List Value
  | 0 => []
  | k + 1 => .int .u8 (n / 2 ^ (8 * k) % 256) :: be n k
theorem be_length (n : Int) (k : Nat) : (be n k).length = k := by induction k <;> simp_all [be]

end Go.Proofs.YtihbngfbcnojcaaGreat
