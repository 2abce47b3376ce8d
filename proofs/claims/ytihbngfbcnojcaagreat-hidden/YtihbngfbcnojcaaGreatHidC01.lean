import Derived.WalkKit
import Derived.Maps.AppendAt
import Derived.Lib.AppendStr
import Derived.Lib.AppendZeros
import Derived.Test.YtihbngfbcnojcaaGreatProg
import Derived.WalkSpells
import Derived.WalkLawsBesides
import Derived.Deep.DeepMust
import Derived.RegionTactic
import Derived.BigRegion
import Derived.Deep.RegionWith
import Derived.Deep.RegionLaw
import Derived.Laws.CopyOwn
namespace Go.Proofs.YtihbngfbcnojcaaGreat
open Go.RowKit

/-- From w to w' only the row of v may have turned, among what was there; and v' lies in that row, or in a new one. -/
def Grew (w : World) (v : Value) (w' : World) (v' : Value) : Prop := w.grownBy w' v.ownBlock ∧ (v'.ownBlock = v.ownBlock ∨ ∃ k, w.heap.size ≤ k ∧ v'.ownBlock = some k)

theorem Grew.refl (w : World) (v : Value) : Grew w v w v := ⟨⟨rfl, rfl, rfl, Nat.le_refl _, fun _ _ _ => rfl⟩, .inl rfl⟩

theorem Grew.trans {w w1 w2 : World} {v v1 v2 : Value} (h : Grew w v w1 v1) (k : Grew w1 v1 w2 v2) : Grew w v w2 v2 := by
  obtain ⟨h1, h2⟩ := h
  obtain ⟨k1, k2⟩ := k
  have hs := h1.size
  refine ⟨⟨k1.os.trans h1.os, k1.tape.trans h1.tape, k1.output.trans h1.output, Nat.le_trans hs k1.size, fun i hi hne => ?_⟩, ?_⟩
  · rw [k1.block i (by omega) ?_, h1.block i hi hne]
    rcases h2 with h2 | ⟨j, hj, h2⟩
    · rw [h2]; exact hne
    · rw [h2]; intro e; cases e; omega
  · rcases k2 with k2 | ⟨j, hj, k2⟩
    · rcases h2 with h2 | ⟨i, hi, h2⟩
      · exact .inl (k2.trans h2)
      · exact .inr ⟨i, hi, k2.trans h2⟩
    · exact .inr ⟨j, by omega, k2⟩

theorem Grew.alloc {w w1 : World} {v v1 : Value} (h : Grew w v w1 v1) (o : Obj) : Grew w v (w1.alloc o) v1 :=
  h.trans ⟨World.grownBy_alloc _ _ _, .inl rfl⟩

theorem Grew.append {w w1 w2 : World} {v v1 v2 : Value} (h : Grew w v w1 v1) (hg : w1.grownBy w2 v1.ownBlock) (ha : v2.ownBlock = v1.ownBlock ∨ v2.ownBlock = some w1.heap.size) : Grew w v w2 v2 :=
  h.trans ⟨hg, ha.imp id fun e => ⟨_, Nat.le_refl _, e⟩⟩

/-- What lies elsewhere stays. -/
theorem Grew.block {w w' : World} {v v' : Value} (h : Grew w v w' v') {k : Nat} (hk : k < w.heap.size) (hne : v.ownBlock ≠ some k) : w'.heap[k]? = w.heap[k]? := h.1.block k hk (fun e => hne e.symm)

/-- An append on a row of the call's own, from what its two arms leave. -/
theorem own_append {w : World} {base : Nat} {e : TypeId} {v : Value} {k n : Nat} {xs news : List Value} {r : Result Value} (hown : w.ownsRow base e 1 v k xs) (hb : base ≤ w.heap.size) (hl : news.length = n)
    (hnil : v = .slice none 0 0 → n = 0 → r = .ok v w)
    (hroom : ∀ g cap cur, v = .slice (some ⟨g, 0, none⟩) k cap → w.heap[g]? = some (.cells cur e (0, 0)) → cur.size = cap → k + n ≤ cap → r = .ok (.slice (some ⟨g, 0, none⟩) (k + n) cap) (w.setRow g (cur.toList.take k ++ news ++ cur.toList.drop (k + n)).toArray))
    (hgrow : ∀ ad cap, v = .slice ad k cap → cap < k + n → ∃ c rest, r = .ok (.slice (some ⟨w.heap.size, 0, none⟩) (k + n) c) (w.drew.alloc (.cells ((xs ++ news).toArray ++ rest) e)) ∧ k + n + rest.size = c ∧ c ≤ maxLen) :
    ∃ v' w', r = .ok v' w' ∧ w'.ownsRow base e 1 v' (k + n) (xs ++ news) ∧ Grew w v w' v' := by
  have hxl : xs.length = k := by simpa using hown.1
  have hlen : (xs ++ news).length = (k + n) * 1 := by rw [List.length_append, hxl, hl, Nat.mul_one]
  have grown : ∀ ad cap, v = .slice ad k cap → cap < k + n → ∃ v' w', r = .ok v' w' ∧ w'.ownsRow base e 1 v' (k + n) (xs ++ news) ∧ Grew w v w' v' := by
    intro ad cap hv hc
    obtain ⟨c, rest, hr, hcs, hcm⟩ := hgrow ad cap hv hc
    refine ⟨_, _, hr, ⟨hlen, .inr ⟨w.heap.size, c, _, rfl, hb, heap_alloc_new w.drew _, by omega, hcm, ?_, ?_⟩⟩, ⟨⟨rfl, rfl, rfl, by simp, fun i hi _ => Below.heap_alloc w.drew _ i hi⟩, .inr ⟨_, Nat.le_refl _, rfl⟩⟩⟩
    · simp only [Array.size_append, List.size_toArray, hlen]; omega
    · simp only [Array.toList_append]
      rw [← hlen]
      exact List.take_left
  rcases hown.2 with ⟨rfl, rfl⟩ | ⟨g, cap, cur, rfl, hbg, hg, hnc, hcm, hcs, htake⟩
  · by_cases hn : n = 0
    · subst hn
      have h1 : xs = [] := List.eq_nil_of_length_eq_zero hxl
      have h2 : news = [] := List.eq_nil_of_length_eq_zero hl
      subst h1 h2
      exact ⟨_, _, hnil rfl rfl, hown, Grew.refl _ _⟩
    · exact grown _ _ rfl (by omega)
  · by_cases hroom' : k + n ≤ cap
    · have hcs' : cur.size = cap := by simpa using hcs
      refine ⟨_, _, hroom g cap cur rfl hg hcs' hroom', ⟨hlen, .inr ⟨g, cap, _, rfl, hbg, setRow_heap w g cur _ e _ hg, hroom', hcm, ?_, ?_⟩⟩, ⟨⟨rfl, rfl, rfl, by simp, fun i _ hi => setRow_other w g i _ (fun e => hi (by simp [Value.ownBlock, e]))⟩, .inl rfl⟩⟩
      · simp only [List.size_toArray, List.length_append, List.length_take, List.length_drop, Array.length_toList, hl]
        omega
      · have ht' : cur.toList.take k = xs := by simpa using htake
        simp only [ht']
        rw [← hlen]
        exact List.take_left
    · exact grown _ _ rfl (by omega)

/-- append(b, s...): the bytes of a string. -/
theorem append_text {P : Program} {w : World} {base : Nat} {t u ty e : TypeId} {i : TypeInfo} (ht : P.underlying t = some (.slice e)) (hu : P.underlying u = some .string) (hi : P.info? e = some i) (hz : i.zero = some (.int .u8 0)) (h1 : i.size = 1) (hy : i.bytes = 1)
    {v : Value} {k : Nat} {xs : List Value} (hown : w.ownsRow base e 1 v k xs) (hb : base ≤ w.heap.size) (s : ByteArray) (hs : k + s.size ≤ 1000000) :
    ∃ v' w', (Builtin.append_ #[t, u] ty #[v, .string s]).run P w = .ok v' w' ∧ w'.ownsRow base e 1 v' (k + s.size) (xs ++ Lib.strCells s) ∧ Grew w v w' v' := by
  refine own_append hown hb (Lib.strCells_length s) ?_ ?_ ?_
  · rintro rfl h0
    have hf := Lib.run_firstCells_string (P := P) w 1 s
    rw [h0] at hf
    simp [Builtin.append_, run_underlying ht, run_underlying hu, sizeOf, typeInfo, hi, h1, Builtin.lenOf, h0, hf]
  · rintro g cap cur rfl hg hc hr
    exact Lib.run_append_room_string (P := P) w t u ty e i ht hu hi h1 g k cap cur hg s hr (by omega)
  · rintro ad cap rfl hc
    have hcl : grownCap w (k + s.size) cap e ≤ maxLen := grownCap_le_maxLen w _ _ e (by unfold maxLen; omega)
    have hge := grownCap_ge w (k + s.size) cap e
    refine ⟨grownCap w (k + s.size) cap e, Builtin.zeroCells (Value.int .u8 0).cells (grownCap w (k + s.size) cap e - (k + s.size)), ?_, by rw [size_zeroCells]; simp [Value.cells]; omega, hcl⟩
    rcases hown.2 with ⟨h, rfl⟩ | ⟨g, cap', cur, h, _, hg, _, _, _, htake⟩
    · simp at h
      obtain ⟨rfl, rfl⟩ := h
      have hx : xs = [] := List.eq_nil_of_length_eq_zero (by simpa using hown.1)
      subst hx
      have hr := run_append_nil_string (P := P) w t u ty e i (.int .u8 0) ht hu hi hz s (by omega) (by omega) (by rw [hy]; omega)
      rw [hr]
      have e1 : (s.data.map fun b => Value.int .u8 b.toNat) = (Lib.strCells s).toArray := by
        apply Array.ext'
        simp [Lib.strCells]
      simp [e1]
    · simp at h
      obtain ⟨rfl, rfl⟩ := h
      have hr := Lib.run_append_grow_string (P := P) w t u ty e i (.int .u8 0) ht hu hi hz ⟨g, 0, none⟩ k cap xs (by rw [h1]; simpa using hown.1) (hown.cells (g := g) rfl) s (by omega) (by omega) (by rw [hy]; exact growslice_fits (by omega) (by omega))
      rw [hr]
      simp

theorem zeroCells_u8 (n : Nat) : Builtin.zeroCells (Value.int .u8 0).cells n = (List.replicate n (Value.int .u8 0)).toArray := by
  apply Array.ext
  · simp [size_zeroCells, Value.cells]
  · intro i h1 h2
    simp [Builtin.zeroCells, Value.cells, Nat.mod_one]

/-- append(b, make([]byte, n)...). -/
theorem append_zeros {P : Program} {w : World} {base : Nat} {t u ty e : TypeId} {i : TypeInfo} {kn : IntKind} (ht : P.underlying t = some (.slice e)) (hu : P.underlying u = some (.int kn)) (hi : P.info? e = some i) (hz : i.zero = some (.int .u8 0)) (h1 : i.size = 1) (hy : i.bytes = 1)
    {v : Value} {k : Nat} {xs : List Value} (hown : w.ownsRow base e 1 v k xs) (hb : base ≤ w.heap.size) (n : Nat) (hs : k + n ≤ 1000000) :
    ∃ v' w', (Builtin.append_ #[t, u] ty #[v, .int .i64 n]).run P w = .ok v' w' ∧ w'.ownsRow base e 1 v' (k + n) (xs ++ List.replicate n (.int .u8 0)) ∧ Grew w v w' v' := by
  have hw : IntKind.i64.wrap (n : Int) = n := by rw [IntKind.wrap_i64]; omega
  have hneg : ¬ ((n : Int) < 0) := by omega
  have h48i : ¬ (281474976710656 < (n : Int)) := by omega
  refine own_append hown hb (by simp) ?_ ?_ ?_
  · rintro rfl h0
    subst h0
    simp [Builtin.append_, run_underlying ht, run_underlying hu, sizeOf, typeInfo, hi, hy, asInt, asIntOf, IntKind.wrap_i64]
  · rintro g cap cur rfl hg hc hr
    have hst := run_storeCells_at P g k e (List.replicate n (Value.int .u8 0)) 0 cur w hg (by simp; omega) (fun u hu => by rw [List.eq_of_mem_replicate hu]; rfl)
    simp only [Nat.add_zero, List.length_replicate] at hst
    by_cases h0 : n = 0
    · subst h0
      simp at hst
      simp [Builtin.append_, run_underlying ht, run_underlying hu, sizeOf, typeInfo, hi, h1, hy, asInt, asIntOf, IntKind.wrap_i64, Addr.add_lit, hst, show k ≤ cap by omega]
    · simp [Builtin.append_, run_underlying ht, run_underlying hu, sizeOf, typeInfo, zeroValue, hi, hz, h1, hy, asInt, asIntOf, hw, hneg, h48i, hr, h0, zeroCells_u8, Addr.add_lit, hst]
  · rintro ad cap rfl hc
    have hcl : grownCap w (k + n) cap e ≤ maxLen := grownCap_le_maxLen w _ _ e (by unfold maxLen; omega)
    have hge := grownCap_ge w (k + n) cap e
    refine ⟨grownCap w (k + n) cap e, Builtin.zeroCells (Value.int .u8 0).cells (grownCap w (k + n) cap e - (k + n)), ?_, by rw [size_zeroCells]; simp [Value.cells]; omega, hcl⟩
    have hn : ¬ (k + n ≤ cap) := by omega
    have h63' : ¬ (9223372036854775807 < ((k : Int) + (n : Int))) := by omega
    have h48' : ¬ (281474976710656 < Builtin.nextslicecap (k + n) cap) := by have := growslice_fits (bytes := 1) hc (by omega); omega
    have hf : (Builtin.firstCells 1 k (.slice ad k cap)).run P w.drew = .ok xs.toArray w.drew := by
      rcases hown.2 with ⟨h, rfl⟩ | ⟨g, cap', cur, h, _, hg, _, _, _, htake⟩
      · simp at h
        obtain ⟨rfl, rfl⟩ := h
        have hx : xs = [] := List.eq_nil_of_length_eq_zero (by simpa using hown.1)
        subst hx
        simp [run_firstCells_none]
      · simp at h
        obtain ⟨rfl, rfl⟩ := h
        exact run_firstCells_some (P := P) w.drew 1 k ⟨g, 0, none⟩ k cap xs (by simpa using hown.1) (by simpa using hown.cells (g := g) rfl)
    have h0 : ¬ n = 0 := by
      rcases hown.2 with ⟨h, rfl⟩ | ⟨g, cap', cur, h, _, hg, hle, _, _, htake⟩
      · simp at h; omega
      · simp at h; omega
    simp [Builtin.append_, run_underlying ht, run_underlying hu, sizeOf, typeInfo, zeroValue, hi, hz, h1, hy, asInt, asIntOf, hw, hneg, h48i, hn, h0, h63', h48', zeroCells_u8, Question.forced, hf, newRow, grownCap]
    congr 2
    apply Array.ext'
    simp [List.append_assoc]

theorem lt_of_block' {w : World} {k : Nat} {o : Obj} (h : w.heap[k]? = some o) : k < w.heap.size := (Array.getElem?_eq_some_iff.1 h).1
theorem cell_at {w : World} {b j : Nat} {cs : Array Value} {t : TypeId} {fz : Nat × Nat} {v : Value} (h : w.heap[b]? = some (.cells cs t fz)) (hv : cs[j]? = some v) : w.cell? ⟨b, j, none⟩ = some v := by
  simp [World.cell?, h, hv]
theorem frozen_at {w : World} {b : Nat} (j : Nat) {cs : Array Value} {t : TypeId} (h : w.heap[b]? = some (.cells cs t (0, 0))) : w.frozen? ⟨b, j, none⟩ = false := by
  simp [World.frozen?, h]
theorem setCell_at (w : World) (b j : Nat) (u : Value) (cs : Array Value) (t : TypeId) (h : w.heap[b]? = some (.cells cs t (0, 0))) :
    (w.setCell ⟨b, j, none⟩ u).heap[b]? = some (.cells (cs.setIfInBounds j u) t (0, 0)) := by
  rw [setCell_eq_setRow w b j cs t (0, 0) u h]
  exact setRow_heap w b cs _ t (0, 0) h
theorem owns_form {w : World} {base : Nat} {e : TypeId} {size : Nat} {v : Value} {n : Nat} {xs : List Value} (h : w.ownsRow base e size v n xs) : ∃ ad cap, v = .slice ad n cap := by
  rcases h.2 with ⟨h2, rfl⟩ | ⟨g, cap, cur, h2, _⟩
  · exact ⟨_, _, h2⟩
  · exact ⟨_, _, h2⟩
/-- A row of the call's own that is not empty: its block, its cells. -/
theorem owns_row {w : World} {base : Nat} {e : TypeId} {v : Value} {n : Nat} {xs : List Value} (h : w.ownsRow base e 1 v n xs) (h0 : 0 < n) :
    ∃ g cap cur, v = .slice (some ⟨g, 0, none⟩) n cap ∧ base ≤ g ∧ w.heap[g]? = some (.cells cur e (0, 0)) ∧ n ≤ cap ∧ (∀ (j : Nat) u, xs[j]? = some u → cur[j]? = some u) := by
  rcases h.2 with ⟨_, h⟩ | ⟨g, cap, cur, h1, h2, h3, h4, _, _, h5⟩
  · omega
  · refine ⟨g, cap, cur, h1, h2, h3, h4, fun j u hu => ?_⟩
    rw [← h5, List.getElem?_take] at hu
    split at hu
    · simpa using hu
    · cases hu
/-- A store into a row of the call's own. -/
theorem owns_set {w : World} {base : Nat} {e : TypeId} {g n cap : Nat} {xs : List Value} (h : w.ownsRow base e 1 (.slice (some ⟨g, 0, none⟩) n cap) n xs) (j : Nat) (u : Value) :
    (w.setCell ⟨g, j, none⟩ u).ownsRow base e 1 (.slice (some ⟨g, 0, none⟩) n cap) n (xs.set j u) := by
  rcases h.2 with ⟨h1, _⟩ | ⟨g', cap', cur, h1, h2, h3, h4, h5, h6, h7⟩
  · cases h1
  · simp at h1
    obtain ⟨rfl, rfl⟩ := h1
    refine ⟨by simpa using h.1, .inr ⟨g, cap, _, rfl, h2, setCell_at w g j u cur e h3, h4, h5, by simpa using h6, ?_⟩⟩
    rw [← h7]
    simp [List.take_set]
theorem Grew.store {w w1 : World} {v : Value} {g n cap : Nat} (h : Grew w v w1 (.slice (some ⟨g, 0, none⟩) n cap)) (j : Nat) (u : Value) : Grew w v (w1.setCell ⟨g, j, none⟩ u) (.slice (some ⟨g, 0, none⟩) n cap) :=
  h.trans ⟨⟨rfl, rfl, rfl, by simp [World.setCell], fun k _ hne => Below.heap_setCell _ _ _ _ (fun e => hne (by simp [Value.ownBlock, e]))⟩, .inl rfl⟩

/-- The last bytes of a number, the high one first. -/
def be (n : Int) : Nat → List Value
  | 0 => []
  | k + 1 => .int .u8 (n / 2 ^ (8 * k) % 256) :: be n k
theorem be_length (n : Int) (k : Nat) : (be n k).length = k := by induction k <;> simp_all [be]

end Go.Proofs.YtihbngfbcnojcaaGreat

namespace Go.Proofs.YtihbngfbcnojcaaGreat
open Go.RowKit

theorem info5 : (Tryz.prog.info? 5).map (fun i => (i.zero, i.size, i.bytes)) = some (some (.int .u8 0), 1, 1) := by kernel_rfl

set_option maxRecDepth 100000 in
set_option maxHeartbeats 1000000 in
theorem appendNumber_any (base : Nat) (v : Value) (k : Nat) (xs : List Value) (n : Int) (size : Nat) (w : World) (hown : w.ownsRow base 5 1 v k xs) (hb : base ≤ w.heap.size) (hk : k ≤ 1000) (_hn0 : 0 ≤ n) (_hn : n < 4294967296) (hs : size ≤ 8) :
    Calls Tryz.prog 169 #[v, .int .i64 n, .int .i64 size] w fun e w' => ∃ v', e = .returned v' ∧ w'.ownsRow base 5 1 v' (k + size) (xs ++ be n size) ∧ Grew w v w' v' := by
  obtain ⟨i0, hi, hz0, hz1, hz2⟩ := info_parts info5
  go_enter Tryz.func169, Tryz.ntmps169
  go_wp2
  go_loopw [0, 7] (fun u i wr => ∃ (m : Nat) (ys : List Value), m ≤ size ∧ i = .int .i64 ((m : Int) - 1) ∧ wr.ownsRow base 5 1 u (k + (size - m)) (xs ++ ys) ∧ ys ++ be n m = be n size ∧ Grew w v wr u) (fun _ i _ => (intOf i + 1).toNat)
  case atStart => exact ⟨size, [], Nat.le_refl _, rfl, by simpa using hown, rfl, Grew.refl _ _⟩
  case round =>
    obtain ⟨m, ys, hm, rfl, hown2, hys, hg⟩ := hrel
    have HG : Hid (Grew w v wr u0) := hg
    have hb2 : base ≤ wr.heap.size := by have := hg.1.size; omega
    match m with
    | 0 =>
      clear hg
      go_wp2
      go_ret
      exact ⟨_, rfl, by rw [← hys]; simpa [be] using hown2, HG.out⟩
    | m + 1 =>
      have h0 : (0 : Int) ≤ (m : Int) := by omega
      have H1 : Hid (ys ++ be n (m + 1) = be n size) := hys
      clear hys hg
      go_wp2_with (first | (at_builtin; go_must (
        refine wpList_append_own_at _ rfl _ _ 46 rfl base 5 i0 (.int .u8 0) 1 1 Tryz.underlying46 hi hz0 hz1 hz2 rfl (by decide) _ _ _ rfl (hown2.alloc _) ⟨wr.heap.size, 0, none⟩ 1 1 [.int .u8 (n / 2 ^ (8 * m) % 256)] rfl rfl (cell_one_new _ _ _) (fun x hx => by simp at hx; subst hx; rfl) (by unfold maxLen; omega) (by omega) ?hbase ?_
        case hbase => simp; omega
        intro v' w4 hown4 hg4 hnil hat)))
      go_roundw
      case rel =>
        refine ⟨m, ys ++ [.int .u8 (n / 2 ^ (8 * m) % 256)], by omega, by go_num, ?_, by rw [List.append_assoc]; exact H1.out, (HG.out.alloc _).append hg4 hat⟩
        rw [show k + (size - m) = k + (size - (m + 1)) + 1 by omega, ← List.append_assoc]
        exact hown4
      case measure => simp [intOf]
/-- A text in a field: its length, its bytes, zeros. -/
def textCells (s : ByteArray) (room : Nat) : List Value := [.int .u8 (s.size : Int)] ++ Lib.strCells s ++ List.replicate (room - s.size) (.int .u8 0)

set_option maxRecDepth 100000 in
set_option maxHeartbeats 1000000 in
theorem appendText_any (base : Nat) (v : Value) (k : Nat) (xs : List Value) (s : ByteArray) (room : Nat) (w : World) (hown : w.ownsRow base 5 1 v k xs) (hb : base ≤ w.heap.size) (hk : k ≤ 1000) (hs : s.size ≤ room) (hr : room ≤ 100) :
    Calls Tryz.prog 211 #[v, .string s, .int .i64 room] w fun e w' => ∃ v', e = .returned v' ∧ w'.ownsRow base 5 1 v' (k + (1 + room)) (xs ++ textCells s room) ∧ Grew w v w' v' := by
  obtain ⟨i0, hi, hz0, hz1, hz2⟩ := info_parts info5
  have tok1 : True := trivial
  have tok2 : True := trivial
  have tok3 : True := trivial
  have HO : Hid (w.ownsRow base 5 1 v k xs) := hown
  clear hown
  go_enter Tryz.func211, Tryz.ntmps211
  go_wp2_with (first
    | (at_builtin; have _t := tok1; go_must (
        refine wpList_append_own_at _ rfl _ _ 46 rfl base 5 i0 (.int .u8 0) 1 1 Tryz.underlying46 hi hz0 hz1 hz2 rfl (by decide) _ _ _ rfl (HO.out.alloc _) ⟨w.heap.size, 0, none⟩ 1 1 [.int .u8 (s.size : Int)] rfl rfl (cell_one_new _ _ _) (fun x hx => by simp at hx; subst hx; rfl) (by unfold maxLen; omega) (by omega) ?hbase ?_
        case hbase => simp; omega
        intro v1 w1 hown1 hg1 hnil1 hat1
        have HG1 : Hid (Grew w v w1 v1) := ((Grew.refl w v).alloc _).append hg1 hat1
        have HO1 : Hid (w1.ownsRow base 5 1 v1 (k + 1) (xs ++ [.int .u8 (s.size : Int)])) := hown1
        clear tok1 hg1 hat1 hnil1 hown1))
    | (at_builtin; have _t := tok2; go_must (
        obtain ⟨v2, w2, hr2, hown2, hg2⟩ := append_text (ty := 46) Tryz.underlying46 Tryz.underlying9 hi hz0 hz1 hz2 HO1.out (by have := HG1.out.1.size; omega) s (by omega)
        refine Lib.wpList_append_run _ rfl _ _ 46 9 rfl _ _ rfl rfl v2 w2 hr2 ?_
        have HG2 : Hid (Grew w v w2 v2) := HG1.out.trans hg2
        have HO2 : Hid (w2.ownsRow base 5 1 v2 (k + 1 + s.size) (xs ++ [.int .u8 (s.size : Int)] ++ Lib.strCells s)) := hown2
        clear tok2 hr2 hg2 hown2 HG1 HO1))
    | (at_builtin; have _t := tok3; go_must (
        obtain ⟨v3, w3, hr3, hown3, hg3⟩ := append_zeros (ty := 46) Tryz.underlying46 Tryz.underlying3 hi hz0 hz1 hz2 HO2.out (by have := HG2.out.1.size; omega) (room - s.size) (by omega)
        rw [show ((room - s.size : Nat) : Int) = (room : Int) - (s.size : Int) by omega] at hr3
        refine Lib.wpList_append_run _ rfl _ _ 46 3 rfl _ _ rfl rfl v3 w3 hr3 ?_
        have HG3 : Hid (Grew w v w3 v3) := HG2.out.trans hg3
        have HO3 : Hid (w3.ownsRow base 5 1 v3 (k + 1 + s.size + (room - s.size)) (xs ++ [.int .u8 (s.size : Int)] ++ Lib.strCells s ++ List.replicate (room - s.size) (.int .u8 0))) := hown3
        clear tok3 hr3 hg3 hown3 HG2 HO2)))
  go_ret
  refine ⟨_, rfl, ?_, HG3.out⟩
  have := HO3.out
  rw [show k + 1 + s.size + (room - s.size) = k + (1 + room) by omega] at this
  simpa [textCells] using this
/-- A cell in a field: a text, its length one more if it is something. -/
def cellCells (is : Bool) (s : ByteArray) : List Value := [.int .u8 ((s.size : Int) + if is then 1 else 0)] ++ Lib.strCells s ++ List.replicate (12 - s.size) (.int .u8 0)

set_option maxRecDepth 100000 in
set_option maxHeartbeats 1000000 in
theorem appendCell_any (base : Nat) (v : Value) (k : Nat) (xs : List Value) (is : Bool) (s : ByteArray) (w : World) (hown : w.ownsRow base 5 1 v k xs) (hb : base ≤ w.heap.size) (hk : k ≤ 500) (hs : s.size ≤ 12) :
    Calls Tryz.prog 298 #[v, .agg #[.bool is, .string s]] w fun e w' => ∃ v', e = .returned v' ∧ w'.ownsRow base 5 1 v' (k + 13) (xs ++ cellCells is s) ∧ Grew w v w' v' := by
  have HO : Hid (∀ o, (w.alloc o).ownsRow base 5 1 v k xs) := fun o => hown.alloc o
  have hxl : xs.length = k := by simpa using hown.1
  have hvb : v.ownBlock ≠ some w.heap.size := fun e => by have := (hown.lt _ e).2; omega
  obtain ⟨ad, cap, rfl⟩ := owns_form hown
  clear hown
  cases is
  all_goals
    go_enter Tryz.func298, Tryz.ntmps298
    go_wp2_with (first
      | (go_at_call 211; go_must (
          refine (appendText_any base _ k xs s 12 _ (HO.out _) (by simp; omega) (by omega) hs (by omega)).mono ?_
          rintro e w1 ⟨v1, rfl, hown1, hg1⟩
          have hbx := hg1.block (k := w.heap.size) (by simp) hvb
          rw [heap_alloc_new] at hbx
          have c0 := cell_at (j := 0) hbx rfl
          obtain ⟨g1, cap1, cur1, rfl, hgb, hgh, hcap1, hcur⟩ := owns_row hown1 (by omega)
          have d0 : w1.cell? ⟨g1, k, none⟩ = some (.int .u8 (s.size : Int)) := cell_at hgh (hcur k _ (by rw [List.getElem?_append_right (by omega)]; simp [hxl, textCells]))
          have f0 := frozen_at k hgh
          have HO1 : Hid (w1.ownsRow base 5 1 (.slice (some ⟨g1, 0, none⟩) (k + 13) cap1) (k + 13) (xs ++ textCells s 12)) := hown1
          have HG1 : Hid (Grew w (.slice ad k cap) w1 (.slice (some ⟨g1, 0, none⟩) (k + 13) cap1)) := ((Grew.refl w _).alloc _).trans hg1
          clear hbx hg1 hgh hcur hown1 HO)))
  · go_ret
    exact ⟨_, rfl, by simpa [cellCells, textCells] using HO1.out, HG1.out⟩
  · go_ret
    refine ⟨_, rfl, ?_, HG1.out.store _ _⟩
    have := owns_set HO1.out k (.int .u8 ((s.size : Int) + 1))
    rw [List.set_append_right _ _ (by omega)] at this
    simpa [cellCells, textCells, hxl] using this

end Go.Proofs.YtihbngfbcnojcaaGreat

namespace Go.Proofs.YtihbngfbcnojcaaGreat
open Go.RowKit

theorem fresh_after {w w1 : World} {o : Obj} {v1 : Value} (h : Grew (w.alloc o).drew (.slice none 0 0) w1 v1) : Below w.heap.size w w1 ∧ w.heap.size + 1 ≤ w1.heap.size ∧ w1.heap[w.heap.size]? = some o := by
  have hs := h.1.size
  have e1 : (w.alloc o).drew.heap.size = w.heap.size + 1 := by simp
  rw [e1] at hs
  have hbl : ∀ k, k < w.heap.size + 1 → w1.heap[k]? = (w.alloc o).heap[k]? := fun k hk => h.block (by rw [e1]; exact hk) (by simp [Value.ownBlock])
  refine ⟨⟨h.1.os, h.1.tape, h.1.output, by omega, fun k hk => ?_⟩, hs, ?_⟩
  · rw [hbl k (by omega)]; exact Below.heap_alloc w _ k hk
  · rw [hbl _ (by omega)]; exact heap_alloc_new w o
theorem Grew.below {B : Nat} {w w' : World} {v v' : Value} (h : Grew w v w' v') {base : Nat} {e : TypeId} {n : Nat} {xs : List Value} (ho : w.ownsRow base e 1 v n xs) (hB : B ≤ base) (hb : base ≤ w.heap.size) : Below B w w' :=
  ⟨h.1.os, h.1.tape, h.1.output, h.1.size, fun k hk => h.block (by omega) (fun e => by have := (ho.lt _ e).1; omega)⟩

set_option maxRecDepth 100000 in
set_option maxHeartbeats 1000000 in
theorem bytes_any (a b : Int) (w : World) (ha : 0 ≤ a) (ha' : a < 4294967296) (hb : 0 ≤ b) (hb' : b < 4294967296) :
    Calls Tryz.prog 213 #[.agg #[.int .u32 a, .int .u32 b]] w fun e w' => ∃ v', e = .returned v' ∧ w'.ownsRow (w.heap.size + 1) 5 1 v' 8 (be a 4 ++ be b 4) ∧ Below w.heap.size w w' := by
  have tok1 : True := trivial
  have hwa : IntKind.i64.wrap a = a := by rw [IntKind.wrap_i64]; omega
  have hwb : IntKind.i64.wrap b = b := by rw [IntKind.wrap_i64]; omega
  go_enter Tryz.func213, Tryz.ntmps213
  go_wp2
  go_region_with (first
    | (go_at_call 169; have _t := tok1; go_must (
        refine (appendNumber_any (w.heap.size + 1) _ 0 [] a 4 _ (World.ownsRow_nil _ _ _ _) (by simp) (by omega) ha ha' (by omega)).mono ?_
        rintro e w1 ⟨v1, rfl, hown1, hg1⟩
        obtain ⟨hB1, hS1, hbx2⟩ := fresh_after hg1
        have c1 : w1.cell? ⟨w.heap.size, 1, none⟩ = some (.int .u32 b) := cell_at (j := 1) hbx2 rfl
        have HO1 : Hid (w1.ownsRow (w.heap.size + 1) 5 1 v1 (0 + 4) ([] ++ be a 4)) := hown1
        have HB1 : Hid (Below w.heap.size w w1) := hB1
        have HS1 : Hid (w.heap.size + 1 ≤ w1.heap.size) := hS1
        clear tok1 hbx2 hg1 hown1 hB1 hS1))
    | (go_at_call 169; go_must (
        refine (appendNumber_any (w.heap.size + 1) _ (0 + 4) ([] ++ be a 4) b 4 _ HO1.out HS1.out (by omega) hb hb' (by omega)).mono ?_
        rintro e w2 ⟨v2, rfl, hown2, hg2⟩
        have HO2 : Hid (w2.ownsRow (w.heap.size + 1) 5 1 v2 (0 + 4 + 4) ([] ++ be a 4 ++ be b 4)) := hown2
        have HB2 : Hid (Below w.heap.size w w2) := HB1.out.trans (hg2.below HO1.out (by omega) HS1.out)
        clear hown2 hg2)))
  all_goals
    go_wp2
    go_ret
    exact ⟨v2, rfl, HO2.out, HB2.out⟩
end Go.Proofs.YtihbngfbcnojcaaGreat

namespace Go.Proofs.YtihbngfbcnojcaaGreat
open Go.RowKit

theorem sz5 : (Tryz.prog.info? 5).map (·.size) = some 1 := by kernel_rfl
theorem be_one (n : Int) (k : Nat) : ∀ u ∈ be n k, u.oneCell' = true := by
  induction k with
  | zero => simp [be]
  | succ k ih =>
    intro u hu
    simp [be] at hu
    rcases hu with rfl | hu
    · rfl
    · exact ih u hu
theorem be2_one (a b : Int) : ∀ u ∈ be a 4 ++ be b 4, u.oneCell' = true := by
  intro u hu
  rcases List.mem_append.1 hu with h | h
  · exact be_one _ _ u h
  · exact be_one _ _ u h
theorem add_zero' (g j : Nat) : (⟨g, 0, none⟩ : Addr).add j = ⟨g, j, none⟩ := by unfold Addr.add; split <;> simp_all

/-- What seal starts with. -/
theorem seal_start {w : World} {o1 o2 o3 : Obj} : Below w.heap.size w (((w.alloc o1).alloc o2).alloc o3) ∧ (((w.alloc o1).alloc o2).alloc o3).heap.size = w.heap.size + 3 ∧
    (((w.alloc o1).alloc o2).alloc o3).heap[w.heap.size]? = some o1 ∧ (((w.alloc o1).alloc o2).alloc o3).heap[w.heap.size + 1]? = some o2 ∧ (((w.alloc o1).alloc o2).alloc o3).heap[w.heap.size + 1 + 1]? = some o3 := by
  refine ⟨(((Below.refl _ _).alloc (Nat.le_refl _) _).alloc (by simp) _).alloc (by simp; omega) _, by simp, ?_, ?_, ?_⟩
  · rw [Below.heap_alloc _ _ _ (by simp; omega), Below.heap_alloc _ _ _ (by simp)]; exact heap_alloc_new _ _
  · rw [Below.heap_alloc _ _ _ (by simp)]; have := heap_alloc_new (w.alloc o1) o2; simpa using this
  · have := heap_alloc_new ((w.alloc o1).alloc o2) o3; simpa using this

theorem seal_list (A bl : List Value) (z : Value) (hA : A.length = 8) (hL : bl.length ≤ 48) :
    splice (splice (splice (List.replicate 64 z) 0 A) 8 bl) 56 A = A ++ bl ++ List.replicate (48 - bl.length) z ++ A := by
  have e1 : splice (List.replicate 64 z) 0 A = A ++ List.replicate 56 z := by simp [splice, hA]
  have e2 : splice (A ++ List.replicate 56 z) 8 bl = A ++ (bl ++ List.replicate (56 - bl.length) z) := by
    simp only [splice]
    rw [List.take_left' hA, List.drop_append, List.drop_eq_nil_of_le (by omega), hA, List.nil_append, List.drop_replicate]
    congr 3
    omega
  have e3 : A ++ (bl ++ List.replicate (56 - bl.length) z) = (A ++ bl ++ List.replicate (48 - bl.length) z) ++ List.replicate 8 z := by
    rw [show 56 - bl.length = (48 - bl.length) + 8 by omega, ← List.replicate_append_replicate]
    simp only [List.append_assoc]
  have hl : (A ++ bl ++ List.replicate (48 - bl.length) z).length = 56 := by simp [hA]; omega
  rw [e1, e2, e3]
  simp only [splice]
  rw [List.take_left' hl, List.drop_eq_nil_of_le (by rw [List.length_append, hl, hA, List.length_replicate]; omega)]
  simp [List.append_assoc]

theorem all_one (S : List Value) (h : ∀ u ∈ S, u.oneCell' = true) : S.toArray.all (·.oneCell') = true := by simpa using h

set_option maxRecDepth 100000 in
set_option maxHeartbeats 1000000 in
theorem seal_core (a b : Int) (A : List Value) (hA : A.length = 8) (hA1 : ∀ u ∈ A, u.oneCell' = true)
    (hby : ∀ w, Calls Tryz.prog 213 #[.agg #[.int .u32 a, .int .u32 b]] w fun e w' => ∃ v', e = .returned v' ∧ w'.ownsRow (w.heap.size + 1) 5 1 v' 8 A ∧ Below w.heap.size w w')
    (w : World) (gb L cap : Nat) (bl : List Value) (hgb : gb < w.heap.size) (hL : bl.length = L) (hL' : L ≤ 48)
    (hbl : ∀ j u, bl[j]? = some u → w.cell? ⟨gb, j, none⟩ = some u) (h1 : ∀ u ∈ bl, u.oneCell' = true) :
    Calls Tryz.prog 167 #[.agg #[.int .u32 a, .int .u32 b], .slice (some ⟨gb, 0, none⟩) L cap] w fun e w' =>
      e = .returned (.agg (A ++ bl ++ List.replicate (48 - L) (Value.int .u8 0) ++ A).toArray) ∧ Below w.heap.size w w' := by
  have tok1 : True := trivial
  have HA : Hid (A.length = 8) := hA
  have HL : Hid (bl.length = L) := hL
  clear hA hL
  have HBY := @id (Hid _) hby
  clear hby
  go_enter Tryz.func167, Tryz.ntmps167
  go_wp2
  have hst := seal_start (w := w) (o1 := .cells #[.int .u32 a, .int .u32 b] 168) (o2 := .cells (List.replicate 64 (Value.int .u8 0)).toArray 98) (o3 := .cells (List.replicate 64 (Value.int .u8 0)).toArray 98)
  change Code.wp _ _ _ _ (((w.alloc (.cells #[.int .u32 a, .int .u32 b] 168)).alloc (.cells (List.replicate 64 (Value.int .u8 0)).toArray 98)).alloc (.cells (List.replicate 64 (Value.int .u8 0)).toArray 98))
  revert hst
  generalize ((w.alloc (.cells #[.int .u32 a, .int .u32 b] 168)).alloc (.cells (List.replicate 64 (Value.int .u8 0)).toArray 98)).alloc (.cells (List.replicate 64 (Value.int .u8 0)).toArray 98) = w0
  rintro ⟨hB0, hs0, hh0, hh1, hh2⟩
  have c0 : w0.cell? ⟨w.heap.size, 0, none⟩ = some (.int .u32 a) := cell_at hh0 rfl
  have c1 : w0.cell? ⟨w.heap.size, 1, none⟩ = some (.int .u32 b) := cell_at hh0 rfl
  have HBL : Hid (∀ j u, bl[j]? = some u → w.cell? ⟨gb, j, none⟩ = some u) := hbl
  have HB0 : Hid (Below w.heap.size w w0) := hB0
  have HH0 : Hid (w0.heap[w.heap.size]? = some (.cells #[.int .u32 a, .int .u32 b] 168)) := hh0
  have HH1 : Hid (w0.heap[w.heap.size + 1]? = some (.cells (List.replicate 64 (Value.int .u8 0)).toArray 98)) := hh1
  have HH2 : Hid (w0.heap[w.heap.size + 1 + 1]? = some (.cells (List.replicate 64 (Value.int .u8 0)).toArray 98)) := hh2
  have HS0 : Hid (w0.heap.size = w.heap.size + 3) := hs0
  clear hbl hB0 hh0 hh1 hh2 hs0
  go_region_law (first
    | (refine step_copy_splice rfl (.tmp 6) (.tmp 8) 46 46 rfl 5 Tryz.underlying46 sz5 (some ⟨w.heap.size + 1 + 1, 0, none⟩) (some ⟨g1, 0, none⟩) 64 64 8 cap1 rfl rfl (w.heap.size + 1 + 1) 0 _ 98 HH3.out A HA.out (fun _ => ⟨rfl, ⟨g1, 0, none⟩, rfl, HSRC.out⟩) (by rw [HA.out]; simp) hA1 (w.heap.size + 1 + 1) w1 (Below.refl _ _) (Nat.le_refl _) ?_
       intro w2 HH4 hB2
       have HB2 : Hid (Below (w.heap.size + 1 + 1) w0 w2) := HB1.out.trans hB2
       clear hB2)
    | (go_simp; go_wp2_with (first | (go_at_call 213; go_must (
        refine (HBY.out _).mono ?_
        rintro e w1 ⟨v1, rfl, hown1, hb1⟩
        obtain ⟨g1, cap1, cur1, rfl, hg1b, hg1h, hc1, hcur⟩ := owns_row hown1 (by omega)
        have HSRC : Hid (∀ j u, A[j]? = some u → w1.cell? ((⟨g1, 0, none⟩ : Addr).add j) = some u) := fun j u hu => by rw [add_zero']; exact cell_at hg1h (hcur j u hu)
        have hB1' : Below w0.heap.size w0 w1 := (Below.refl _ _).drew.trans hb1
        have HB1 : Hid (Below (w.heap.size + 1 + 1) w0 w1) := hB1'.mono (by have := HS0.out; omega)
        have HH3 : Hid (w1.heap[w.heap.size + 1 + 1]? = some (.cells (List.replicate 64 (Value.int .u8 0)).toArray 98)) := (hB1'.block (w.heap.size + 1 + 1) (by have := HS0.out; omega)).trans HH2.out
        clear hown1 hb1 hg1b hg1h hcur hc1 hB1')))))
  have hgb2 : gb < w2.heap.size := by have := HB2.out.size; have := HS0.out; omega
  have hm : L = Nat.min L 56 := by simp [Nat.min_def]; omega
  have HM : Hid (L = Nat.min L 56) := hm
  clear hm
  go_wp2_with (first | (have _t := tok1; (
      refine wpList_copy_splice rfl (.tmp 10) (.tmp 11) 46 46 rfl 5 Tryz.underlying46 sz5 (some ⟨w.heap.size + 1 + 1, 8, none⟩) (some ⟨gb, 0, none⟩) 56 56 L cap rfl rfl (w.heap.size + 1 + 1) 8 _ 98 HH4.out bl (HL.out.trans HM.out) (fun _ => ⟨rfl, ⟨gb, 0, none⟩, rfl, ?hsrc⟩) ?hfit h1 (w.heap.size + 1 + 1) w0 HB2.out (Nat.le_refl _) ?_
      case hsrc => intro j u hu; rw [add_zero', HB2.out.cell (show gb < w.heap.size + 1 + 1 by omega), HB0.out.cell hgb]; exact HBL.out j u hu
      case hfit => rw [length_splice _ _ _ (by rw [HA.out]; simp)]; have := HL.out; simp; omega
      intro w3 HH5 hB3
      have HB3 : Hid (Below (w.heap.size + 1 + 1) w0 w3) := hB3
      clear hB3 tok1)))
  have k0 : w3.heap[w.heap.size]? = some (.cells #[.int .u32 a, .int .u32 b] 168) := (HB3.out.block _ (by omega)).trans HH0.out
  have d0 : w3.cell? ⟨w.heap.size, 0, none⟩ = some (.int .u32 a) := cell_at k0 rfl
  have d1 : w3.cell? ⟨w.heap.size, 1, none⟩ = some (.int .u32 b) := cell_at k0 rfl
  have HS3 : Hid (w.heap.size + 3 ≤ w3.heap.size) := by have := HB3.out.size; have := HS0.out; show _ ≤ _; omega
  have HLC : Hid ((splice (splice (List.replicate 64 (Value.int .u8 0)) 0 A) 8 bl).length = 64) := by
    show _ = _
    rw [length_splice _ _ _ (by rw [length_splice _ _ _ (by rw [HA.out]; simp)]; have := HL.out; simp; omega), length_splice _ _ _ (by rw [HA.out]; simp)]
    simp
  clear k0 c0 c1
  go_region_law (first
    | (refine step_copy_splice rfl (.tmp 13) (.tmp 15) 46 46 rfl 5 Tryz.underlying46 sz5 (some ⟨w.heap.size + 1 + 1, 56, none⟩) (some ⟨g4, 0, none⟩) 8 8 8 cap4 rfl rfl (w.heap.size + 1 + 1) 56 _ 98 HH6.out A HA.out (fun _ => ⟨rfl, ⟨g4, 0, none⟩, rfl, HSRC4.out⟩) (by rw [HA.out, HLC.out]; omega) hA1 (w.heap.size + 1 + 1) w0 HB4.out (Nat.le_refl _) ?_
       intro w5 HH7 hB5
       have HB5 : Hid (Below (w.heap.size + 1 + 1) w0 w5) := hB5
       clear hB5)
    | (go_simp; go_wp2_with (first | (go_at_call 213; go_must (
        refine (HBY.out _).mono ?_
        rintro e w4 ⟨v4, rfl, hown4, hb4⟩
        obtain ⟨g4, cap4, cur4, rfl, hg4b, hg4h, hc4, hcur⟩ := owns_row hown4 (by omega)
        have HSRC4 : Hid (∀ j u, A[j]? = some u → w4.cell? ((⟨g4, 0, none⟩ : Addr).add j) = some u) := fun j u hu => by rw [add_zero']; exact cell_at hg4h (hcur j u hu)
        have hB4' : Below w3.heap.size w3 w4 := (Below.refl _ _).drew.trans hb4
        have HB4 : Hid (Below (w.heap.size + 1 + 1) w0 w4) := HB3.out.trans (hB4'.mono (by have := HS3.out; omega))
        have HH6 : Hid (w4.heap[w.heap.size + 1 + 1]? = some (.cells (splice (splice (List.replicate 64 (Value.int .u8 0)) 0 A) 8 bl).toArray 98)) := (hB4'.block (w.heap.size + 1 + 1) (by have := HS3.out; omega)).trans HH5.out
        clear hown4 hb4 hg4b hg4h hcur hc4 hB4')))))
  have HF : Hid (splice (splice (splice (List.replicate 64 (Value.int .u8 0)) 0 A) 8 bl) 56 A = A ++ bl ++ List.replicate (48 - L) (Value.int .u8 0) ++ A) := by
    have := seal_list A bl (.int .u8 0) HA.out (by have := HL.out; omega)
    rw [HL.out] at this
    exact this
  rw [HF.out] at HH7
  have HSL : Hid ((A ++ bl ++ List.replicate (48 - L) (Value.int .u8 0) ++ A).length = 64) := by
    show _ = _
    simp only [List.length_append, List.length_replicate, HA.out, HL.out]
    omega
  have HS1 : Hid (∀ u ∈ A ++ bl ++ List.replicate (48 - L) (Value.int .u8 0) ++ A, u.oneCell' = true) := by
    intro u hu
    simp only [List.mem_append] at hu
    rcases hu with ((h | h) | h) | h
    · exact hA1 u h
    · exact h1 u h
    · rw [List.eq_of_mem_replicate h]; rfl
    · exact hA1 u h
  have K1 : Hid (w5.heap[w.heap.size + 1]? = some (.cells (List.replicate 64 (Value.int .u8 0)).toArray 98)) := (HB5.out.block _ (by omega)).trans HH1.out
  have HBF : Hid (Below w.heap.size w w5) := HB0.out.trans (HB5.out.mono (by omega))
  clear HF HBL
  obtain ⟨S, hS⟩ : ∃ S, A ++ bl ++ List.replicate (48 - L) (Value.int .u8 0) ++ A = S := ⟨_, rfl⟩
  rw [hS] at HH7 HSL HS1
  have HSS : Hid (A ++ bl ++ List.replicate (48 - L) (Value.int .u8 0) ++ A = S) := hS
  clear hS
  go_wp2_with (first
    | (refine wpList_load_row rfl 98 (.tmp 5) rfl (w.heap.size + 1 + 1) rfl 98 _ (0, 0) _ HH7.out Tryz.underlying98 rfl ?hi1 ?_
       case hi1 => rw [List.size_toArray, HSL.out]; kernel_rfl)
    | (refine wpList_store_row rfl 98 (.tmp 4) (.tmp 17) rfl (w.heap.size + 1) S.toArray rfl rfl 98 _ K1.out ?hi2 ?ho ?h1 ?_
       go_must (
         case hi2 => rw [List.size_toArray, HSL.out]; kernel_rfl
         case ho => rw [List.size_toArray, List.size_toArray, HSL.out]; rfl
         case h1 => exact all_one _ HS1.out)))
  refine bodyPost_ret (v := .agg S.toArray) ?_ rfl ⟨by rw [HSS.out], ?_⟩
  · exact results_cell_row Tryz.results167 _ _ (w.heap.size + 1) 98 S.toArray (0, 0) _ rfl (setRow_heap _ _ _ _ _ _ K1.out) Tryz.underlying98 rfl (by rw [List.size_toArray, HSL.out]; kernel_rfl)
  · exact below_setRow HBF.out (by omega) _

theorem seal_any (a b : Int) (w : World) (ha : 0 ≤ a) (ha' : a < 4294967296) (hb : 0 ≤ b) (hb' : b < 4294967296) (gb L cap : Nat) (bl : List Value) (hgb : gb < w.heap.size) (hL : bl.length = L) (hL' : L ≤ 48)
    (hbl : ∀ j u, bl[j]? = some u → w.cell? ⟨gb, j, none⟩ = some u) (h1 : ∀ u ∈ bl, u.oneCell' = true) :
    Calls Tryz.prog 167 #[.agg #[.int .u32 a, .int .u32 b], .slice (some ⟨gb, 0, none⟩) L cap] w fun e w' =>
      e = .returned (.agg ((be a 4 ++ be b 4) ++ bl ++ List.replicate (48 - L) (Value.int .u8 0) ++ (be a 4 ++ be b 4)).toArray) ∧ Below w.heap.size w w' :=
  seal_core a b _ (by simp [be_length]) (be2_one a b) (fun w => bytes_any a b w ha ha' hb hb') w gb L cap bl hgb hL hL' hbl h1
end Go.Proofs.YtihbngfbcnojcaaGreat

namespace Go.Proofs.YtihbngfbcnojcaaGreat
open Go.RowKit

/-- An entry of the log, as the model has it. -/
structure EntV where
  (kind tx prev next : Int)
  (key : ByteArray)
  (oldIs : Bool)
  (old : ByteArray)
  (newIs : Bool)
  (new : ByteArray)

def EntV.cells (e : EntV) : Array Value := #[.int .i64 e.kind, .int .i64 e.tx, .int .i64 e.prev, .int .i64 e.next, .string e.key, .bool e.oldIs, .string e.old, .bool e.newIs, .string e.new]
/-- It fits into a sector. -/
structure EntV.Fits (e : EntV) : Prop where
  kind : 0 ≤ e.kind ∧ e.kind < 256
  tx : 0 ≤ e.tx ∧ e.tx < 256
  prev : 0 ≤ e.prev ∧ e.prev < 65536
  next : 0 ≤ e.next ∧ e.next < 65536
  key : e.key.size ≤ 8
  old : e.old.size ≤ 12
  new : e.new.size ≤ 12
def EntV.body (e : EntV) : List Value := be e.kind 1 ++ be e.tx 1 ++ be e.prev 2 ++ be e.next 2 ++ textCells e.key 8 ++ cellCells e.oldIs e.old ++ cellCells e.newIs e.new

theorem str_one (s : ByteArray) : ∀ u ∈ Lib.strCells s, u.oneCell' = true := Lib.strCells_oneCell s
theorem rep_one (n : Nat) (k : Int) : ∀ u ∈ List.replicate n (Value.int .u8 k), u.oneCell' = true := fun u hu => by rw [List.eq_of_mem_replicate hu]; rfl
theorem text_one (s : ByteArray) (r : Nat) : ∀ u ∈ textCells s r, u.oneCell' = true := by
  intro u hu
  simp only [textCells, List.mem_append, List.mem_singleton] at hu
  rcases hu with (h | h) | h
  · rw [h]; rfl
  · exact str_one s u h
  · exact rep_one _ _ u h
theorem cellCells_one (b : Bool) (s : ByteArray) : ∀ u ∈ cellCells b s, u.oneCell' = true := by
  intro u hu
  simp only [cellCells, List.mem_append, List.mem_singleton] at hu
  rcases hu with (h | h) | h
  · rw [h]; rfl
  · exact str_one s u h
  · exact rep_one _ _ u h
theorem text_length (s : ByteArray) (r : Nat) (h : s.size ≤ r) : (textCells s r).length = 1 + r := by simp [textCells, Lib.strCells_length]; omega
theorem cell_length (b : Bool) (s : ByteArray) (h : s.size ≤ 12) : (cellCells b s).length = 13 := by simp [cellCells, Lib.strCells_length]; omega
theorem EntV.body_length (e : EntV) (h : e.Fits) : e.body.length = 41 := by
  simp only [EntV.body, List.length_append, be_length, text_length _ _ h.key, cell_length _ _ h.old, cell_length _ _ h.new]
theorem EntV.body_one (e : EntV) : ∀ u ∈ e.body, u.oneCell' = true := by
  intro u hu
  simp only [EntV.body, List.mem_append] at hu
  rcases hu with (((((h | h) | h) | h) | h) | h) | h
  · exact be_one _ _ u h
  · exact be_one _ _ u h
  · exact be_one _ _ u h
  · exact be_one _ _ u h
  · exact text_one _ _ u h
  · exact cellCells_one _ _ u h
  · exact cellCells_one _ _ u h

/-- A sector: a stamp, a body, a stamp. -/
def sealed (a b : Int) (bl : List Value) : List Value := (be a 4 ++ be b 4) ++ bl ++ List.replicate (48 - bl.length) (Value.int .u8 0) ++ (be a 4 ++ be b 4)

theorem sealed_length (a b : Int) (bl : List Value) (h : bl.length ≤ 48) : (sealed a b bl).length = 64 := by
  simp only [sealed, List.length_append, List.length_replicate, be_length]; omega
theorem sealed_one (a b : Int) (bl : List Value) (h : ∀ u ∈ bl, u.oneCell' = true) : ∀ u ∈ sealed a b bl, u.oneCell' = true := by
  intro u hu
  simp only [sealed, List.mem_append] at hu
  rcases hu with (((h1 | h1) | h1) | h1) | (h1 | h1)
  · exact be_one _ _ u h1
  · exact be_one _ _ u h1
  · exact h u h1
  · exact rep_one _ _ u h1
  · exact be_one _ _ u h1
  · exact be_one _ _ u h1
theorem seal_any' (a b : Int) (w : World) (ha : 0 ≤ a) (ha' : a < 4294967296) (hb : 0 ≤ b) (hb' : b < 4294967296) (gb L cap : Nat) (bl : List Value) (hgb : gb < w.heap.size) (hL : bl.length = L) (hL' : L ≤ 48)
    (hbl : ∀ j u, bl[j]? = some u → w.cell? ⟨gb, j, none⟩ = some u) (h1 : ∀ u ∈ bl, u.oneCell' = true) :
    Calls Tryz.prog 167 #[.agg #[.int .u32 a, .int .u32 b], .slice (some ⟨gb, 0, none⟩) L cap] w fun e w' =>
      ∃ S : List Value, e = .returned (.agg S.toArray) ∧ Hid (S = sealed a b bl) ∧ Hid (S.length = 64) ∧ Hid (∀ u ∈ S, u.oneCell' = true) ∧ Below w.heap.size w w' := by
  refine (seal_any a b w ha ha' hb hb' gb L cap bl hgb hL hL' hbl h1).mono ?_
  rintro e w' ⟨rfl, hb⟩
  exact ⟨sealed a b bl, by rw [sealed, hL], rfl, sealed_length a b bl (by omega), sealed_one a b bl h1, hb⟩

set_option maxRecDepth 100000 in
set_option maxHeartbeats 4000000 in
theorem packEntry_any (a b : Int) (e : EntV) (w : World) (ha : 0 ≤ a) (ha' : a < 4294967296) (hb : 0 ≤ b) (hb' : b < 4294967296) (he : e.Fits) :
    Calls Tryz.prog 296 #[.agg #[.int .u32 a, .int .u32 b], .agg e.cells] w fun r w' => r = .returned (.agg (sealed a b e.body).toArray) ∧ Below w.heap.size w w' := by
  obtain ⟨kind, tx, prev, next, key, oldIs, old, newIs, new⟩ := e
  obtain ⟨hk, ht, hp, hn, hkey, hold, hnew⟩ := he
  have BL := EntV.body_length ⟨kind, tx, prev, next, key, oldIs, old, newIs, new⟩ ⟨hk, ht, hp, hn, hkey, hold, hnew⟩
  have HBL : Hid _ := @id (Hid _) BL
  clear BL
  simp only at hk ht hp hn hkey hold hnew
  have tok1 : True := trivial
  have tok2 : True := trivial
  have tok3 : True := trivial
  have tok4 : True := trivial
  have tok5 : True := trivial
  have tok6 : True := trivial
  have tok7 : True := trivial
  have hst := seal_start (w := w) (o1 := .cells #[.int .u32 a, .int .u32 b] 168) (o2 := .cells #[.int .i64 kind, .int .i64 tx, .int .i64 prev, .int .i64 next, .string key, .bool oldIs, .string old, .bool newIs, .string new] 152) (o3 := .cells (List.replicate 64 (Value.int .u8 0)).toArray 98)
  have HST := @id (Hid _) hst
  clear hst
  simp only [EntV.cells]
  go_enter Tryz.func296, Tryz.ntmps296
  go_wp2_with fail
  change Calls _ _ _ (((w.alloc (.cells #[.int .u32 a, .int .u32 b] 168)).alloc (.cells #[.int .i64 kind, .int .i64 tx, .int .i64 prev, .int .i64 next, .string key, .bool oldIs, .string old, .bool newIs, .string new] 152)).alloc (.cells (List.replicate 64 (Value.int .u8 0)).toArray 98)) _
  revert HST
  generalize ((w.alloc (.cells #[.int .u32 a, .int .u32 b] 168)).alloc (.cells #[.int .i64 kind, .int .i64 tx, .int .i64 prev, .int .i64 next, .string key, .bool oldIs, .string old, .bool newIs, .string new] 152)).alloc (.cells (List.replicate 64 (Value.int .u8 0)).toArray 98) = w0
  intro HST
  obtain ⟨hB0, hs0, hh0, hh1, hh2⟩ := HST.out
  have HB0 : Hid (Below w.heap.size w w0) := hB0
  have HH0 : Hid (w0.heap[w.heap.size]? = some (.cells #[.int .u32 a, .int .u32 b] 168)) := hh0
  have HH1 : Hid (w0.heap[w.heap.size + 1]? = some (.cells #[.int .i64 kind, .int .i64 tx, .int .i64 prev, .int .i64 next, .string key, .bool oldIs, .string old, .bool newIs, .string new] 152)) := hh1
  have HH2 : Hid (w0.heap[w.heap.size + 1 + 1]? = some (.cells (List.replicate 64 (Value.int .u8 0)).toArray 98)) := hh2
  have HS0 : Hid (w0.heap.size = w.heap.size + 3) := hs0
  clear hB0 hh0 hh1 hh2 hs0 HST
  refine (appendNumber_any (w.heap.size + 3) _ 0 [] kind 1 _ (World.ownsRow_nil _ _ _ _) (by have := HS0.out; omega) (by omega) hk.1 (by omega) (by omega)).mono ?_
  rintro r w1 ⟨v1, rfl, hown, hg⟩
  have HO1 : Hid (w1.ownsRow (w.heap.size + 3) 5 1 v1 1 (be kind 1)) := hown
  have HB1 : Hid (Below (w.heap.size + 3) w0 w1) := hg.below (World.ownsRow_nil _ (w.heap.size + 3) 5 1) (Nat.le_refl _) (by have := HS0.out; omega)
  have HS1 : Hid (w.heap.size + 3 ≤ w1.heap.size) := by have := HB1.out.size; have := HS0.out; show _ ≤ _; omega
  have q1_1 : w1.cell? ⟨w.heap.size + 1, 1, none⟩ = some (.int .i64 tx) := (HB1.out.cell (by simp)).trans (cell_at HH1.out rfl)
  clear tok1 hown hg
  go_wp2_with (first
    | (go_at_call 169; have _t := tok2; go_must (
        refine (appendNumber_any (w.heap.size + 3) _ 1 (be kind 1) tx 1 _ HO1.out (by have := HS1.out; omega) (by omega) ht.1 (by omega) (by omega)).mono ?_
        rintro r w2 ⟨v2, rfl, hown, hg⟩
        have HO2 : Hid (w2.ownsRow (w.heap.size + 3) 5 1 v2 2 (be kind 1 ++ be tx 1)) := hown
        have HB2 : Hid (Below (w.heap.size + 3) w0 w2) := HB1.out.trans (hg.below HO1.out (Nat.le_refl _) (by have := HS1.out; omega))
        have HS2 : Hid (w.heap.size + 3 ≤ w2.heap.size) := by have := HB2.out.size; have := HS0.out; show _ ≤ _; omega
        have q2_2 : w2.cell? ⟨w.heap.size + 1, 2, none⟩ = some (.int .i64 prev) := (HB2.out.cell (by simp)).trans (cell_at HH1.out rfl)
        clear tok2 hown hg HO1 HB1 HS1 q1_1))
    | (go_at_call 169; have _t := tok3; go_must (
        refine (appendNumber_any (w.heap.size + 3) _ 2 (be kind 1 ++ be tx 1) prev 2 _ HO2.out (by have := HS2.out; omega) (by omega) hp.1 (by omega) (by omega)).mono ?_
        rintro r w3 ⟨v3, rfl, hown, hg⟩
        have HO3 : Hid (w3.ownsRow (w.heap.size + 3) 5 1 v3 4 (be kind 1 ++ be tx 1 ++ be prev 2)) := hown
        have HB3 : Hid (Below (w.heap.size + 3) w0 w3) := HB2.out.trans (hg.below HO2.out (Nat.le_refl _) (by have := HS2.out; omega))
        have HS3 : Hid (w.heap.size + 3 ≤ w3.heap.size) := by have := HB3.out.size; have := HS0.out; show _ ≤ _; omega
        have q3_3 : w3.cell? ⟨w.heap.size + 1, 3, none⟩ = some (.int .i64 next) := (HB3.out.cell (by simp)).trans (cell_at HH1.out rfl)
        clear tok3 hown hg HO2 HB2 HS2 q2_2))
    | (go_at_call 169; have _t := tok4; go_must (
        refine (appendNumber_any (w.heap.size + 3) _ 4 (be kind 1 ++ be tx 1 ++ be prev 2) next 2 _ HO3.out (by have := HS3.out; omega) (by omega) hn.1 (by omega) (by omega)).mono ?_
        rintro r w4 ⟨v4, rfl, hown, hg⟩
        have HO4 : Hid (w4.ownsRow (w.heap.size + 3) 5 1 v4 6 (be kind 1 ++ be tx 1 ++ be prev 2 ++ be next 2)) := hown
        have HB4 : Hid (Below (w.heap.size + 3) w0 w4) := HB3.out.trans (hg.below HO3.out (Nat.le_refl _) (by have := HS3.out; omega))
        have HS4 : Hid (w.heap.size + 3 ≤ w4.heap.size) := by have := HB4.out.size; have := HS0.out; show _ ≤ _; omega
        have q4_4 : w4.cell? ⟨w.heap.size + 1, 4, none⟩ = some (.string key) := (HB4.out.cell (by simp)).trans (cell_at HH1.out rfl)
        clear tok4 hown hg HO3 HB3 HS3 q3_3))
    | (go_at_call 211; have _t := tok5; go_must (
        refine (appendText_any (w.heap.size + 3) _ 6 (be kind 1 ++ be tx 1 ++ be prev 2 ++ be next 2) key 8 _ HO4.out (by have := HS4.out; omega) (by omega) hkey (by omega)).mono ?_
        rintro r w5 ⟨v5, rfl, hown, hg⟩
        have HO5 : Hid (w5.ownsRow (w.heap.size + 3) 5 1 v5 15 (be kind 1 ++ be tx 1 ++ be prev 2 ++ be next 2 ++ textCells key 8)) := hown
        have HB5 : Hid (Below (w.heap.size + 3) w0 w5) := HB4.out.trans (hg.below HO4.out (Nat.le_refl _) (by have := HS4.out; omega))
        have HS5 : Hid (w.heap.size + 3 ≤ w5.heap.size) := by have := HB5.out.size; have := HS0.out; show _ ≤ _; omega
        have q5_5 : w5.cell? ⟨w.heap.size + 1, 5, none⟩ = some (.bool oldIs) := (HB5.out.cell (by simp)).trans (cell_at HH1.out rfl)
        have q5_6 : w5.cell? ⟨w.heap.size + 1, 6, none⟩ = some (.string old) := (HB5.out.cell (by simp)).trans (cell_at HH1.out rfl)
        clear tok5 hown hg HO4 HB4 HS4 q4_4))
    | (go_at_call 298; have _t := tok6; go_must (
        refine (appendCell_any (w.heap.size + 3) _ 15 (be kind 1 ++ be tx 1 ++ be prev 2 ++ be next 2 ++ textCells key 8) oldIs old _ HO5.out (by have := HS5.out; omega) (by omega) hold).mono ?_
        rintro r w6 ⟨v6, rfl, hown, hg⟩
        have HO6 : Hid (w6.ownsRow (w.heap.size + 3) 5 1 v6 28 (be kind 1 ++ be tx 1 ++ be prev 2 ++ be next 2 ++ textCells key 8 ++ cellCells oldIs old)) := hown
        have HB6 : Hid (Below (w.heap.size + 3) w0 w6) := HB5.out.trans (hg.below HO5.out (Nat.le_refl _) (by have := HS5.out; omega))
        have HS6 : Hid (w.heap.size + 3 ≤ w6.heap.size) := by have := HB6.out.size; have := HS0.out; show _ ≤ _; omega
        have q6_7 : w6.cell? ⟨w.heap.size + 1, 7, none⟩ = some (.bool newIs) := (HB6.out.cell (by simp)).trans (cell_at HH1.out rfl)
        have q6_8 : w6.cell? ⟨w.heap.size + 1, 8, none⟩ = some (.string new) := (HB6.out.cell (by simp)).trans (cell_at HH1.out rfl)
        clear tok6 hown hg HO5 HB5 HS5 q5_5 q5_6))
    | (go_at_call 298; have _t := tok7; go_must (
        refine (appendCell_any (w.heap.size + 3) _ 28 (be kind 1 ++ be tx 1 ++ be prev 2 ++ be next 2 ++ textCells key 8 ++ cellCells oldIs old) newIs new _ HO6.out (by have := HS6.out; omega) (by omega) hnew).mono ?_
        rintro r w7 ⟨v7, rfl, hown, hg⟩
        have HO7 : Hid (w7.ownsRow (w.heap.size + 3) 5 1 v7 41 (be kind 1 ++ be tx 1 ++ be prev 2 ++ be next 2 ++ textCells key 8 ++ cellCells oldIs old ++ cellCells newIs new)) := hown
        have HB7 : Hid (Below (w.heap.size + 3) w0 w7) := HB6.out.trans (hg.below HO6.out (Nat.le_refl _) (by have := HS6.out; omega))
        have HS7 : Hid (w.heap.size + 3 ≤ w7.heap.size) := by have := HB7.out.size; have := HS0.out; show _ ≤ _; omega
        have q0 : w7.cell? ⟨w.heap.size, 0, none⟩ = some (.int .u32 a) := (HB7.out.cell (by simp)).trans (cell_at HH0.out rfl)
        have q1 : w7.cell? ⟨w.heap.size, 1, none⟩ = some (.int .u32 b) := (HB7.out.cell (by simp)).trans (cell_at HH0.out rfl)
        obtain ⟨g7, cap7, cur7, rfl, hg7b, hg7h, hc7, hcur⟩ := owns_row HO7.out (by omega)
        have HG7 : Hid (w7.heap[g7]? = some (.cells cur7 5)) := hg7h
        have HC7 : Hid (∀ (j : Nat) u, (be kind 1 ++ be tx 1 ++ be prev 2 ++ be next 2 ++ textCells key 8 ++ cellCells oldIs old ++ cellCells newIs new)[j]? = some u → cur7[j]? = some u) := hcur
        clear hg7b hg7h hc7 hcur
        clear tok7 hown hg HO6 HB6 HS6 q6_7 q6_8))
    | (go_at_call 167; go_must (
        refine (seal_any' a b _ ha ha' hb hb' g7 41 cap7 (be kind 1 ++ be tx 1 ++ be prev 2 ++ be next 2 ++ textCells key 8 ++ cellCells oldIs old ++ cellCells newIs new) (lt_of_block' HG7.out) HBL.out (by omega) (fun j u hu => cell_at HG7.out (HC7.out j u hu)) (EntV.body_one ⟨kind, tx, prev, next, key, oldIs, old, newIs, new⟩)).mono ?_
        rintro r w8 ⟨S, rfl, HSS, HSL, HS1, hb8⟩
        have K1 : Hid (w8.heap[w.heap.size + 1 + 1]? = some (.cells (List.replicate 64 (Value.int .u8 0)).toArray 98)) := ((HB7.out.trans (hb8.mono HS7.out)).block _ (by omega)).trans HH2.out
        have HB8 : Hid (Below (w.heap.size + 3) w0 w8) := HB7.out.trans (hb8.mono HS7.out)
        clear hb8 HB7 HS7 HG7 HC7 q0 q1))
    | (refine wpList_store_row rfl 98 (.tmp 4) (.tmp 35) rfl (w.heap.size + 1 + 1) S.toArray rfl rfl 98 _ K1.out ?hi2 ?ho ?h1 ?_
       go_must (
         case hi2 => rw [List.size_toArray, HSL.out]; kernel_rfl
         case ho => rw [List.size_toArray, List.size_toArray, HSL.out]; rfl
         case h1 => exact all_one _ HS1.out)))
  refine bodyPost_ret (v := .agg S.toArray) ?_ rfl ⟨by rw [HSS.out]; rfl, ?_⟩
  · exact results_cell_row Tryz.results296 _ _ (w.heap.size + 1 + 1) 98 S.toArray (0, 0) _ rfl (setRow_heap _ _ _ _ _ _ K1.out) Tryz.underlying98 rfl (by rw [List.size_toArray, HSL.out]; kernel_rfl)
  · exact below_setRow (HB0.out.trans (HB8.out.mono (by omega))) (by omega) _
end Go.Proofs.YtihbngfbcnojcaaGreat

namespace Go.Proofs.YtihbngfbcnojcaaGreat
open Go.RowKit

/-- A reader at block rb: what is left, and whether something was bad. -/
def ReaderAt (w : World) (rb : Nat) (ad : Option Addr) (len cap : Nat) (bad : Bool) : Prop := w.heap[rb]? = some (.cells #[.slice ad len cap, .bool bad] 243 (0, 0))

set_option maxRecDepth 100000 in
set_option maxHeartbeats 1000000 in
theorem take_any (rb gb off len cap n : Nat) (bad : Bool) (w : World) (hr : ReaderAt w rb (some ⟨gb, off, none⟩) len cap bad) (hn : n ≤ len) (hl : len ≤ cap) (hc : cap ≤ 1000) :
    Calls Tryz.prog 201 #[.pointer (some ⟨rb, 0, none⟩), .int .i64 n] w fun e w' => e = .returned (.slice (some ⟨gb, off, none⟩) n cap) ∧ ∃ ad, (n < cap → ad = some ⟨gb, off + n, none⟩) ∧
      ReaderAt w' rb ad (len - n) (cap - n) bad ∧ (∀ k, k ≠ rb → w'.heap[k]? = w.heap[k]?) ∧ w'.heap.size = w.heap.size ∧ Below 0 w w' := by
  have c0 : w.cell? ⟨rb, 0, none⟩ = some (.slice (some ⟨gb, off, none⟩) len cap) := cell_at hr rfl
  have f0 := frozen_at 0 hr
  have HR : Hid (∀ u, ReaderAt (w.setCell ⟨rb, 0, none⟩ (.slice u (len - n) (cap - n))) rb u (len - n) (cap - n) bad) := fun u => setCell_at w rb 0 _ _ _ hr
  have HO : Hid (∀ u k, k ≠ rb → (w.setCell ⟨rb, 0, none⟩ u).heap[k]? = w.heap[k]?) := fun u k hk => Below.heap_setCell _ _ _ _ hk
  have hsz : ∀ u, (w.setCell ⟨rb, 0, none⟩ u).heap.size = w.heap.size := fun u => by simp [World.setCell]
  have HZ : Hid (∀ u, (w.setCell ⟨rb, 0, none⟩ u).heap.size = w.heap.size) := hsz
  have HB : Hid (∀ u, Below 0 w (w.setCell ⟨rb, 0, none⟩ u)) := fun u => ⟨rfl, rfl, rfl, by rw [hsz u]; exact Nat.le_refl _, fun k hk => by omega⟩
  clear hr hsz
  by_cases hcn : cap = n
  · subst hcn
    go_enter Tryz.func201, Tryz.ntmps201
    go_wp2
    go_ret
    have h0 := HR.out (some ⟨gb, off, none⟩)
    obtain rfl : len = cap := by omega
    simp only [Nat.sub_self] at h0 ⊢
    exact ⟨rfl, some ⟨gb, off, none⟩, fun h => absurd h (by omega), h0, HO.out _, HZ.out _, HB.out _⟩
  · go_enter Tryz.func201, Tryz.ntmps201
    go_wp2
    go_ret
    exact ⟨rfl, some ⟨gb, off + n, none⟩, fun _ => rfl, HR.out _, HO.out _, HZ.out _, HB.out _⟩

/-- The number that some bytes are, the high one first. -/
def ofBe (l : List Int) : Int := l.foldl (fun n b => n * 256 + b) 0

theorem ofBe_snoc (l : List Int) (b : Int) : ofBe (l ++ [b]) = ofBe l * 256 + b := by simp [ofBe, List.foldl_append]
theorem ofBe_bound (l : List Int) (h : ∀ b ∈ l, 0 ≤ b ∧ b < 256) (hl : l.length ≤ 3) : 0 ≤ ofBe l ∧ ofBe l < 16777216 := by
  match l, hl with
  | [], _ => simp [ofBe]
  | [a], _ => have := h a (by simp); simp [ofBe]; omega
  | [a, b], _ => have := h a (by simp); have := h b (by simp); simp [ofBe]; omega
  | [a, b, c], _ => have := h a (by simp); have := h b (by simp); have := h c (by simp); simp [ofBe]; omega
theorem i64_or_nat (a b : Nat) (ha : a < 4294967296) (hb : b < 4294967296) : bits .or .i64 (a : Int) (b : Int) = ((a ||| b : Nat) : Int) := by
  have hx : a ||| b < 2 ^ 32 := Nat.or_lt_two_pow (by omega) (by omega)
  show IntKind.i64.wrap ((BitVec.ofInt 64 (a : Int) ||| BitVec.ofInt 64 (b : Int)).toNat : Int) = _
  rw [BitVec.toNat_or, BitVec.toNat_ofInt, BitVec.toNat_ofInt, IntKind.wrap_i64]
  have e1 : ((a : Int) % ((2 ^ 64 : Nat) : Int)).toNat = a := by omega
  have e2 : ((b : Int) % ((2 ^ 64 : Nat) : Int)).toNat = b := by omega
  rw [e1, e2]
  omega
theorem or_byte (q b : Int) (h1 : 0 ≤ q) (h2 : q < 16777216) (h3 : 0 ≤ b) (h4 : b < 256) : bits .or .i64 (wrap64 (q * 256)) b = q * 256 + b := by
  obtain ⟨n, rfl⟩ := Int.eq_ofNat_of_zero_le h1
  obtain ⟨m, rfl⟩ := Int.eq_ofNat_of_zero_le h3
  have e1 : wrap64 ((n : Int) * 256) = ((n * 256 : Nat) : Int) := by unfold wrap64; omega
  rw [e1, i64_or_nat _ _ (by omega) (by omega)]
  have := Nat.two_pow_add_eq_or_of_lt (i := 8) (b := m) (by omega) n
  rw [show n * 256 = 2 ^ 8 * n by omega, ← this]
  omega

set_option maxRecDepth 100000 in
set_option maxHeartbeats 1000000 in
theorem number_any (rb gb off len cap size : Nat) (bad : Bool) (bs : List Int) (w : World) (hr : ReaderAt w rb (some ⟨gb, off, none⟩) len cap bad) (hn : size ≤ len) (hl : len ≤ cap) (hc : cap ≤ 1000) (hg : gb ≠ rb)
    (hbl : bs.length = size) (hb : ∀ j b, bs[j]? = some b → w.cell? ⟨gb, off + j, none⟩ = some (.int .u8 b) ∧ 0 ≤ b ∧ b < 256) (h4 : size ≤ 4) :
    Calls Tryz.prog 152 #[.pointer (some ⟨rb, 0, none⟩), .int .i64 size] w fun e w' => e = .returned (.int .i64 (ofBe bs)) ∧ ∃ ad, (size < cap → ad = some ⟨gb, off + size, none⟩) ∧
      ReaderAt w' rb ad (len - size) (cap - size) bad ∧ (∀ k, k ≠ rb → w'.heap[k]? = w.heap[k]?) ∧ w'.heap.size = w.heap.size ∧ Below 0 w w' := by
  have HBS : Hid (∀ j b, bs[j]? = some b → w.cell? ⟨gb, off + j, none⟩ = some (.int .u8 b) ∧ 0 ≤ b ∧ b < 256) := hb
  have KT := take_any rb gb off len cap size bad w hr hn hl hc
  clear hb hr
  go_enter Tryz.func152, Tryz.ntmps152
  go_wp2_with (first | (go_at_call 201; go_must (refine KT.mono ?_; rintro e w1 ⟨rfl, ad, had, hr1, ho1, hz1, hb1⟩)))
  have HFIN : Hid (∃ ad, (size < cap → ad = some ⟨gb, off + size, none⟩) ∧ ReaderAt w1 rb ad (len - size) (cap - size) bad ∧ (∀ k, k ≠ rb → w1.heap[k]? = w.heap[k]?) ∧ w1.heap.size = w.heap.size ∧ Below 0 w w1) := ⟨ad, had, hr1, ho1, hz1, hb1⟩
  have HC : Hid (∀ j b, bs[j]? = some b → w1.cell? ⟨gb, off + j, none⟩ = some (.int .u8 b) ∧ 0 ≤ b ∧ b < 256) := fun j b h => ⟨(World.cell?_of_block (ho1 gb hg)).trans (HBS.out j b h).1, (HBS.out j b h).2⟩
  clear had hr1 ho1 hz1 hb1 KT
  go_loop [5, 12] (fun n i => ∃ k : Nat, k ≤ size ∧ i = .int .i64 k ∧ n = .int .i64 (ofBe (bs.take k))) (fun _ i => size - (intOf i).toNat)
  case atStart => exact ⟨0, by omega, rfl, rfl⟩
  case round =>
    obtain ⟨k, hk, rfl, rfl⟩ := hrel
    by_cases hlt : k < size
    · obtain ⟨hcb, hb0, hb1⟩ := HC.out k bs[k] (List.getElem?_eq_getElem (by omega))
      generalize hbk : bs[k] = bb at hcb hb0 hb1
      have HBK : Hid (bs[k]'(by omega) = bb) := hbk
      clear hbk
      have hlt' : (k : Int) < (size : Int) := by omega
      generalize hq : ofBe (bs.take k) = q
      go_wp2
      have hbd := ofBe_bound (bs.take k) (fun b hb => by obtain ⟨j, hj⟩ := List.getElem?_of_mem (List.mem_of_mem_take hb); exact (HC.out j b hj).2) (by simp; omega)
      refine ⟨⟨k + 1, by omega, by go_num, ?_⟩, by simp [intOf]; omega⟩
      rw [← hq, or_byte _ _ hbd.1 hbd.2 hb0 hb1, List.take_succ_eq_append_getElem (by omega), ofBe_snoc, HBK.out]
    · go_wp2
      go_ret
      refine ⟨?_, HFIN.out⟩
      have hks : bs.take k = bs := List.take_of_length_le (by omega)
      show Ending.returned (.int .i64 (ofBe (bs.take k))) = _
      rw [hks]

/-- The bytes of a number are that number. -/
theorem ofBe_be (n : Int) (bs : List Int) (k : Nat) (hn : 0 ≤ n) (hk : k ≤ 4) (hlt : n < 2 ^ (8 * k)) (h : bs.map (Value.int .u8) = be n k) : ofBe bs = n := by
  match k, hk, bs with
  | 0, _, [] => simp [ofBe]; simp at hlt; omega
  | 1, _, [a] => simp [be] at h; simp [ofBe]; simp at hlt; omega
  | 2, _, [a, b] => simp [be] at h; simp [ofBe]; simp at hlt; omega
  | 3, _, [a, b, c] => simp [be] at h; simp [ofBe]; simp at hlt; omega
  | 4, _, [a, b, c, d] => simp [be] at h; simp [ofBe]; simp at hlt; omega
  | 0, _, _ :: _ => simp [be] at h
  | 1, _, [] => simp [be] at h
  | 1, _, _ :: _ :: _ => simp [be] at h
  | 2, _, [] => simp [be] at h
  | 2, _, [_] => simp [be] at h
  | 2, _, _ :: _ :: _ :: _ => simp [be] at h
  | 3, _, [] => simp [be] at h
  | 3, _, [_] => simp [be] at h
  | 3, _, [_, _] => simp [be] at h
  | 3, _, _ :: _ :: _ :: _ :: _ => simp [be] at h
  | 4, _, [] => simp [be] at h
  | 4, _, [_] => simp [be] at h
  | 4, _, [_, _] => simp [be] at h
  | 4, _, [_, _, _] => simp [be] at h
  | 4, _, _ :: _ :: _ :: _ :: _ :: _ => simp [be] at h
/-- .. as a list of integers. -/
def beI (n : Int) : Nat → List Int
  | 0 => []
  | k + 1 => (n / 2 ^ (8 * k) % 256) :: beI n k
theorem beI_map (n : Int) (k : Nat) : (beI n k).map (Value.int .u8) = be n k := by induction k <;> simp_all [be, beI]
theorem beI_length (n : Int) (k : Nat) : (beI n k).length = k := by induction k <;> simp_all [beI]
theorem beI_range (n : Int) (k : Nat) : ∀ b ∈ beI n k, 0 ≤ b ∧ b < 256 := by
  induction k with
  | zero => simp [beI]
  | succ k ih =>
    intro b hb
    simp only [beI, List.mem_cons] at hb
    rcases hb with rfl | hb
    · omega
    · exact ih b hb
theorem ofBe_beI (n : Int) (k : Nat) (hn : 0 ≤ n) (hk : k ≤ 4) (hlt : n < 2 ^ (8 * k)) : ofBe (beI n k) = n := ofBe_be n _ k hn hk hlt (beI_map n k)

end Go.Proofs.YtihbngfbcnojcaaGreat

namespace Go.Proofs.YtihbngfbcnojcaaGreat
open Go.RowKit

theorem ofBe_bound4 (l : List Int) (h : ∀ b ∈ l, 0 ≤ b ∧ b < 256) (hl : l.length = 4) : 0 ≤ ofBe l ∧ ofBe l < 4294967296 := by
  match l, hl with
  | [a, b, c, d], _ => have := h a (by simp); have := h b (by simp); have := h c (by simp); have := h d (by simp); simp [ofBe]; omega

/-- Bytes that lie somewhere. -/
def BytesAt (w : World) (gb off : Nat) (bs : List Int) : Prop := ∀ j b, bs[j]? = some b → w.cell? ⟨gb, off + j, none⟩ = some (.int .u8 b) ∧ 0 ≤ b ∧ b < 256
theorem BytesAt.later {w w' : World} {gb off : Nat} {bs : List Int} (h : BytesAt w gb off bs) (hb : w'.heap[gb]? = w.heap[gb]?) : BytesAt w' gb off bs :=
  fun j b hj => ⟨(World.cell?_of_block hb).trans (h j b hj).1, (h j b hj).2⟩
theorem BytesAt.range {w : World} {gb off : Nat} {bs : List Int} (h : BytesAt w gb off bs) : ∀ b ∈ bs, 0 ≤ b ∧ b < 256 := fun b hb => by
  obtain ⟨j, hj⟩ := List.getElem?_of_mem hb; exact (h j b hj).2
theorem BytesAt.left {w : World} {gb off : Nat} {al bs : List Int} (h : BytesAt w gb off (al ++ bs)) : BytesAt w gb off al :=
  fun j b hj => h j b (by rw [List.getElem?_append_left (List.getElem?_eq_some_iff.1 hj).1]; exact hj)
theorem BytesAt.right {w : World} {gb off : Nat} {al bs : List Int} (h : BytesAt w gb off (al ++ bs)) : BytesAt w gb (off + al.length) bs :=
  fun j b hj => by have := h (al.length + j) b (by rw [List.getElem?_append_right (by omega)]; simpa using hj); rw [← Nat.add_assoc] at this; exact this

set_option maxRecDepth 100000 in
set_option maxHeartbeats 1000000 in
theorem stampOf_any (gb off cap : Nat) (al bs : List Int) (w : World) (hgb : gb < w.heap.size) (hc : 8 ≤ cap) (hc' : cap ≤ 1000) (ha : BytesAt w gb off al) (hb : BytesAt w gb (off + 4) bs) (hal : al.length = 4) (hbl : bs.length = 4) :
    Calls Tryz.prog 212 #[.slice (some ⟨gb, off, none⟩) 8 cap] w fun e w' => e = .returned (.agg #[.int .u32 (ofBe al), .int .u32 (ofBe bs)]) ∧ Below w.heap.size w w' := by
  obtain ⟨a0, a1⟩ := ofBe_bound4 al ha.range hal
  obtain ⟨b0, b1⟩ := ofBe_bound4 bs hb.range hbl
  have tok1 : True := trivial
  have HA : Hid (BytesAt w gb off al) := ha
  have HB : Hid (BytesAt w gb (off + 4) bs) := hb
  have HAL : Hid (al.length = 4) := hal
  have HBL : Hid (bs.length = 4) := hbl
  obtain ⟨qa, hqa⟩ : ∃ q, ofBe al = q := ⟨_, rfl⟩
  obtain ⟨qb, hqb⟩ : ∃ q, ofBe bs = q := ⟨_, rfl⟩
  rw [hqa] at a0 a1 ⊢
  rw [hqb] at b0 b1 ⊢
  have HQA : Hid (ofBe al = qa) := hqa
  have HQB : Hid (ofBe bs = qb) := hqb
  clear ha hb hal hbl hqa hqb
  go_enter Tryz.func212, Tryz.ntmps212
  go_wp2_with (first
    | (go_at_call 152; have _t := tok1; go_must (
        refine (number_any (w.heap.size + 1) gb off 8 cap 4 false al _ ?hr (by omega) hc hc' (by omega) HAL.out ?hb (by omega)).mono ?_
        case hr => exact heap_alloc2_new w _ _
        case hb => exact HA.out.later (by rw [Below.heap_alloc _ _ _ (by simp; omega), Below.heap_alloc _ _ _ hgb])
        rintro e w1 ⟨rfl, ad, had, hr1, ho1, hz1, hb1⟩
        obtain rfl := had (by omega)
        have hgw : w1.heap[gb]? = w.heap[gb]? := by rw [ho1 gb (by omega), Below.heap_alloc _ _ _ (by simp; omega), Below.heap_alloc _ _ _ hgb]
        have HR1 : Hid (ReaderAt w1 (w.heap.size + 1) (some ⟨gb, off + 4, none⟩) (8 - 4) (cap - 4) false) := hr1
        have HB1 : Hid (BytesAt w1 gb (off + 4) bs) := HB.out.later hgw
        have HO1 : Hid (∀ k, k ≠ w.heap.size + 1 → w1.heap[k]? = ((w.alloc (.cells #[.int .u32 0, .int .u32 0] 168)).alloc (.cells #[.slice (some ⟨gb, off, none⟩) 8 cap, .bool false] 243)).heap[k]?) := ho1
        have HZ1 : Hid (w1.heap.size = w.heap.size + 2) := by rw [Hid, hz1]; simp
        have HK1 : Hid (Below 0 w w1) := (((Below.refl 0 w).alloc (by omega) _).alloc (by omega) _).trans hb1
        rw [HQA.out]
        clear tok1 hgw hr1 ho1 hz1 hb1 had HA HB))
    | (go_at_call 152; go_must (
        refine (number_any (w.heap.size + 1) gb (off + 4) (8 - 4) (cap - 4) 4 false bs _ HR1.out (by omega) (by omega) (by omega) (by omega) HBL.out HB1.out (by omega)).mono ?_
        rintro e w2 ⟨rfl, ad2, had2, hr2, ho2, hz2, hb2⟩
        have HO2 : Hid (∀ k, k ≠ w.heap.size + 1 → w2.heap[k]? = ((w.alloc (.cells #[.int .u32 0, .int .u32 0] 168)).alloc (.cells #[.slice (some ⟨gb, off, none⟩) 8 cap, .bool false] 243)).heap[k]?) := fun k hk => (ho2 k hk).trans (HO1.out k hk)
        have HK2 : Hid (Below 0 w w2) := HK1.out.trans hb2
        have HZ2 : Hid (w2.heap.size = w.heap.size + 2) := hz2.trans HZ1.out
        have hc2 : w2.heap[w.heap.size]? = some (.cells #[.int .u32 0, .int .u32 0] 168 (0, 0)) := (HO2.out _ (by omega)).trans (heap_alloc2_old w _ _)
        have f0 := frozen_at 0 hc2
        have f1 := frozen_at 1 hc2
        have g0 := cell_at (j := 0) hc2 rfl
        have g1 := cell_at (j := 1) hc2 rfl
        rw [HQB.out]
        have HC2 : Hid (w2.heap[w.heap.size]? = some (.cells #[.int .u32 0, .int .u32 0] 168 (0, 0))) := hc2
        clear had2 hr2 ho2 hz2 hb2 HR1 HB1 HO1 HZ1 HK1 hc2)))
  have hfin := setCell_at _ w.heap.size 1 (.int .u32 qb) _ 168 (setCell_at w2 w.heap.size 0 (.int .u32 qa) _ 168 HC2.out)
  refine bodyPost_ret (v := .agg #[.int .u32 qa, .int .u32 qb]) ?_ rfl ⟨rfl, ?_⟩
  · exact results_cell_row Tryz.results212 _ _ w.heap.size 168 #[.int .u32 qa, .int .u32 qb] (0, 0) _ rfl hfin Tryz.underlying168 rfl (by kernel_rfl)
  · have hb0 : Below w.heap.size w w2 := ⟨HK2.out.os, HK2.out.tape, HK2.out.output, HK2.out.size, fun k hk => ?_⟩
    · exact (hb0.setCell (p := ⟨w.heap.size, 0, none⟩) (Nat.le_refl _) _).setCell (p := ⟨w.heap.size, 1, none⟩) (Nat.le_refl _) _
    rw [HO2.out k (by omega), Below.heap_alloc _ _ _ (by simp; omega), Below.heap_alloc _ _ _ hk]
end Go.Proofs.YtihbngfbcnojcaaGreat
